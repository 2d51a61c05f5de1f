/-
  Layer 10: without FIXED a map that has an address took pages that were in no area; unmapped again, all is as it was.
-/
import Derived.Test.YtfejoeidffnadaaPkT
namespace Go.Proofs.Ytfejoeidffnadaa
open Go.ChangeShapes Go.WideShapes Go.ChangeAt Go.RowKit Go.Shelf
set_option linter.unusedVariables false
attribute [local go_sem ↓] Go.wp_at_zero Go.wp_at_succ

open Classical in
/-- A place that isn't fixed is free. -/
theorem plR_fits {X : List Ar} {a s f : Int} (h1 : bitF f 1 = false) (h : (plR X a s f).2 = 0) : FitsAt X (plR X a s f).1 s := by
  unfold plR at h ⊢
  rw [if_neg (by rw [h1]; simp)] at h ⊢
  by_cases hf : FitsAt X a s
  · rw [if_pos hf]; exact hf
  · rw [if_neg hf] at h ⊢
    by_cases h8 : bitF f 8 = true
    · rw [if_pos h8] at h ⊢
      rcases low_is X 65536 2097152 s with ⟨e, _⟩ | ⟨b, e, hb, _⟩
      · rw [e] at h; simp at h
      · rw [e]; simp only [if_true]; exact hb.1
    · rw [if_neg h8] at h ⊢
      rcases high_is X 65536 2097152 s with ⟨e, _⟩ | ⟨b, e, hb, _⟩
      · rw [e] at h; simp at h
      · rw [e]; simp only [if_true]; exact hb.1
theorem fits_untouched {X : List Ar} (hX : RightL X) {a s : Int} (h : FitsAt X a s) (p : Int) (ht : Touch a (a + s) p) : tab X p = none := by
  have hp := (fits_pages hX a s).1 h
  unfold Touch at ht
  exact (hp.2.2.2 p (by omega) (by omega)).2.2
theorem outside_none {X : List Ar} (hX : RightL X) {lo hi : Int} (h : ∀ p, Touch lo hi p → tab X p = none) : outsideL lo hi X = X := by
  refine right_unique (outside_right _ _ hX) hX fun p => ?_
  rw [outside_tab _ _ hX]
  by_cases ht : Touch lo hi p
  · rw [if_pos ht, h p ht]
  · rw [if_neg ht]
/-- What follows. -/
theorem free_back {X : List Ar} {c : Cl} (h : Asks X c) (hm : (putC X (wtA X c)).length ≤ 24) (h1 : bitF c.f 1 = false) (k nw tw p f b o : Int) :
    ¬ SomeS (spK X X.length) (wtA X c).s ((wtA X c).s + szV c.n) ∧ umR (putC X (wtA X c)) ⟨k, (wtA X c).s, c.n, nw, tw, p, f, b, o⟩ = (X, 0, 0) := by
  have hX := h.may
  have hfm := h.formed
  have hpl := h.pl
  have hft : FitsAt X (wtA X c).s (szV c.n) := by
    rw [h.e] at hpl
    have := plR_fits h1 hpl
    rw [← h.e] at this
    exact this
  have hun := fits_untouched hX.1 hft
  refine ⟨fun hs => ?_, ?_⟩
  · obtain ⟨p, _, h2, h3⟩ := hs
    unfold spK at h2
    rw [List.take_length] at h2
    exact h2 (hun p h3)
  · have hY : MayL (putC X (wtA X c)) := ⟨putC_right hX.1 hfm, hm⟩
    have hnum := formed_num hfm
    have hend : (wtA X c).e = (wtA X c).s + szV c.n := rfl
    have hr : rgE (wtA X c).s c.n = 0 := by
      rcases rg_is (wtA X c).s c.n with ⟨h2, _⟩ | ⟨⟨_, h2⟩, _⟩ | ⟨⟨_, _, h2⟩, _⟩ | ⟨_, h2, _⟩
      · omega
      · exact absurd h.n h2
      · omega
      · exact h2
    have hrg := rg_ok hr
    have hcut : outsideL (rgA (wtA X c).s c.n) (rgB (wtA X c).s c.n) (putC X (wtA X c)) = X := by
      rw [hrg.2.2.2.2.1, hrg.2.2.2.2.2, ← hend, undone_cut hX.1 hfm, hend]
      exact outside_none hX.1 hun
    unfold umR
    rw [if_pos (um_zero.2 ⟨hY, hr⟩)]
    simp only [hcut]
    rw [if_pos hX.2]

set_option maxHeartbeats 2000000 in
theorem free_many (A : Option Addr) (n cc : Nat) (c : Cl) (w : World) (hn : 30 < n) :
    Calls Try.prog 8 #[.slice A n cc, c.v] w fun e w' => e = .returned (.bool true) ∧ Below w.heap.size w w' := by
  have W0 := Lib.hid map_awake
  have G := Lib.hid ((Bag.new w).add 24 c.cells)
  have hz : (30 : Int) < (n : Int) := by omega
  obtain ⟨ck, ca, cn, cnw, ctw, cp, cf, cb, co⟩ := c
  unfold Cl.v
  simp only [Cl.cells] at *
  go_enter Try.func8, Try.ntmps8
  go_wp2_with fail
  refine (W0.out _).mono ?_
  rintro e w1 ⟨rfl, hb⟩
  have G := Lib.hid (G.out.still hb)
  clear hb
  go_wp2_with fail
  refine (W0.out _).mono ?_
  rintro e w2 ⟨rfl, hb⟩
  have G := Lib.hid (G.out.still hb)
  clear hb
  go_wp2_with fail
  go_ret
  exact ⟨rfl, G.out.bel⟩

set_option maxRecDepth 4000 in
set_option maxHeartbeats 8000000 in
theorem free_err (l : List Ar) (v : Value) (c : Cl) (ho : i64 c.o) (w : World) (hl : l.length ≤ 30) (hA : Holds w v l) (he : (mapR (someL l) c).2.1 ≠ 0) :
    Calls Try.prog 8 #[v, c.v] w fun e w' => e = .returned (.bool true) ∧ Below w.heap.size w w' := by
  have W0 := Lib.hid map_awake
  have G := Lib.hid ((Bag.new w).add 24 c.cells)
  have KL := Lib.hid (hA.still G.out.bel)
  have HA0 := Lib.hid hA
  have CS : Hid (∀ w' u, Holds w' u l → Calls Try.prog 10 #[u] w' fun e w'' => ∃ v', e = .returned v' ∧ Mine w'.heap.size w'' v' (someL l) ∧ Below w'.heap.size w' w'') := Lib.hid (fun w' u h => some_c h (by omega))
  have hX := someL_may l
  generalize someL l = X at *
  have hXl : X.length ≤ 10000 := by have := hX.2; omega
  obtain ⟨ck, ca, cn, cnw, ctw, cp, cf, cb, co⟩ := c
  simp only [Cl.cells] at *
  unfold Cl.v
  simp only [Cl.cells]
  obtain ⟨Y, e1, x1, hr⟩ : ∃ Y e1 x1, mapR X ⟨ck, ca, cn, cnw, ctw, cp, cf, cb, co⟩ = (Y, e1, x1) := ⟨_, _, _, rfl⟩
  have C1 : Hid (∀ w' u, Holds w' u X → Calls Try.prog 11 #[u, .agg #[.int .i64 ck, .int .i64 ca, .int .i64 cn, .int .i64 cnw, .int .i64 ctw, .int .i64 cp, .int .i64 cf, .int .i64 cb, .int .i64 co]] w' fun e w'' => ∃ v', e = .returned (.tuple #[v', .agg #[.int .i64 e1, .int .i64 x1, .int .i64 0, .bool false, .int .i64 0, .int .i64 0]]) ∧ Mine w'.heap.size w'' v' Y ∧ Below w'.heap.size w' w'') := Lib.hid (fun w' u h => by
    have := map_c h hXl ⟨ck, ca, cn, cnw, ctw, cp, cf, cb, co⟩ ho
    rw [hr] at this
    exact this)
  rw [hr] at he
  simp only at he
  have he' : (e1 != 0) = true := by simpa using he
  clear hX hXl hr ho
  obtain ⟨A, cc, rfl⟩ := hA.is
  clear hA
  generalize hn : l.length = n at *
  clear hn
  have hz : ¬ (30 : Int) < (n : Int) := by omega
  go_enter Try.func8, Try.ntmps8
  go_wp2_with fail
  refine (W0.out _).mono ?_
  rintro e w1 ⟨rfl, hb⟩
  have G := Lib.hid (G.out.still hb)
  have KL := Lib.hid (KL.out.still hb)
  clear hb
  go_wp2_with fail
  refine (CS.out _ _ KL.out).mono ?_
  rintro e w2 ⟨vx, rfl, hm, hb⟩
  have SZ := Lib.hid G.out.bel.size
  have G := Lib.hid (G.out.still hb)
  have KX := Lib.hid (hm.base SZ.out)
  clear hb hm CS KL SZ
  obtain ⟨c0, c1, c2, c3, c4, c5, c6, c7, c8⟩ := nine G.out.v0
  go_wp2_with fail
  refine (C1.out _ _ KX.out.holds).mono ?_
  rintro e w3 ⟨vKY, rfl, hm, hb⟩
  have SZ := Lib.hid G.out.bel.size
  have G := Lib.hid (G.out.still hb)
  have KX := Lib.hid (KX.out.still hb)
  have KY := Lib.hid (hm.base SZ.out)
  clear hb hm C1 SZ
  have BN := Lib.hid (below_new w3 (.cells #[.int .i64 e1, .int .i64 x1, .int .i64 0, .bool false, .int .i64 0, .int .i64 0] 31))
  have G := Lib.hid (G.out.add 31 #[.int .i64 e1, .int .i64 x1, .int .i64 0, .bool false, .int .i64 0, .int .i64 0])
  have KX := Lib.hid (KX.out.still BN.out)
  have KY := Lib.hid (KY.out.still BN.out)
  clear BN
  clear c0 c1 c2 c3 c4 c5 c6 c7 c8
  obtain ⟨c0, c1, c2, c3, c4, c5, c6, c7, c8⟩ := nine G.out.v1
  go_wp2_with fail
  go_ret
  exact ⟨rfl, G.out.bel⟩

set_option maxRecDepth 4000 in
set_option maxHeartbeats 8000000 in
theorem free_odd (l : List Ar) (v : Value) (c : Cl) (ho : i64 c.o) (w : World) (hl : l.length ≤ 30) (hA : Holds w v l) (he : (mapR (someL l) c).2.1 = 0) (hodd : c.f.tmod 2 = 1) :
    Calls Try.prog 8 #[v, c.v] w fun e w' => e = .returned (.bool true) ∧ Below w.heap.size w w' := by
  have W0 := Lib.hid map_awake
  have G := Lib.hid ((Bag.new w).add 24 c.cells)
  have KL := Lib.hid (hA.still G.out.bel)
  have HA0 := Lib.hid hA
  have CS : Hid (∀ w' u, Holds w' u l → Calls Try.prog 10 #[u] w' fun e w'' => ∃ v', e = .returned v' ∧ Mine w'.heap.size w'' v' (someL l) ∧ Below w'.heap.size w' w'') := Lib.hid (fun w' u h => some_c h (by omega))
  have hX := someL_may l
  generalize someL l = X at *
  have hXl : X.length ≤ 10000 := by have := hX.2; omega
  obtain ⟨ck, ca, cn, cnw, ctw, cp, cf, cb, co⟩ := c
  simp only [Cl.cells] at *
  unfold Cl.v
  simp only [Cl.cells]
  obtain ⟨Y, e1, x1, hr⟩ : ∃ Y e1 x1, mapR X ⟨ck, ca, cn, cnw, ctw, cp, cf, cb, co⟩ = (Y, e1, x1) := ⟨_, _, _, rfl⟩
  have C1 : Hid (∀ w' u, Holds w' u X → Calls Try.prog 11 #[u, .agg #[.int .i64 ck, .int .i64 ca, .int .i64 cn, .int .i64 cnw, .int .i64 ctw, .int .i64 cp, .int .i64 cf, .int .i64 cb, .int .i64 co]] w' fun e w'' => ∃ v', e = .returned (.tuple #[v', .agg #[.int .i64 e1, .int .i64 x1, .int .i64 0, .bool false, .int .i64 0, .int .i64 0]]) ∧ Mine w'.heap.size w'' v' Y ∧ Below w'.heap.size w' w'') := Lib.hid (fun w' u h => by
    have := map_c h hXl ⟨ck, ca, cn, cnw, ctw, cp, cf, cb, co⟩ ho
    rw [hr] at this
    exact this)
  rw [hr] at he
  simp only at he
  subst he
  have ho' : (cf.tmod 2 == 1) = true := by rw [hodd]; rfl
  clear hX hXl hr ho
  obtain ⟨A, cc, rfl⟩ := hA.is
  clear hA
  generalize hn : l.length = n at *
  clear hn
  have hz : ¬ (30 : Int) < (n : Int) := by omega
  go_enter Try.func8, Try.ntmps8
  go_wp2_with fail
  refine (W0.out _).mono ?_
  rintro e w1 ⟨rfl, hb⟩
  have G := Lib.hid (G.out.still hb)
  have KL := Lib.hid (KL.out.still hb)
  clear hb
  go_wp2_with fail
  refine (CS.out _ _ KL.out).mono ?_
  rintro e w2 ⟨vx, rfl, hm, hb⟩
  have SZ := Lib.hid G.out.bel.size
  have G := Lib.hid (G.out.still hb)
  have KX := Lib.hid (hm.base SZ.out)
  clear hb hm CS KL SZ
  obtain ⟨c0, c1, c2, c3, c4, c5, c6, c7, c8⟩ := nine G.out.v0
  go_wp2_with fail
  refine (C1.out _ _ KX.out.holds).mono ?_
  rintro e w3 ⟨vKY, rfl, hm, hb⟩
  have SZ := Lib.hid G.out.bel.size
  have G := Lib.hid (G.out.still hb)
  have KX := Lib.hid (KX.out.still hb)
  have KY := Lib.hid (hm.base SZ.out)
  clear hb hm C1 SZ
  have BN := Lib.hid (below_new w3 (.cells #[.int .i64 0, .int .i64 x1, .int .i64 0, .bool false, .int .i64 0, .int .i64 0] 31))
  have G := Lib.hid (G.out.add 31 #[.int .i64 0, .int .i64 x1, .int .i64 0, .bool false, .int .i64 0, .int .i64 0])
  have KX := Lib.hid (KX.out.still BN.out)
  have KY := Lib.hid (KY.out.still BN.out)
  clear BN
  clear c0 c1 c2 c3 c4 c5 c6 c7 c8
  obtain ⟨c0, c1, c2, c3, c4, c5, c6, c7, c8⟩ := nine G.out.v1
  go_wp2_with fail
  go_ret
  exact ⟨rfl, G.out.bel⟩

set_option maxRecDepth 4000 in
set_option maxHeartbeats 8000000 in
theorem free_go (l : List Ar) (v : Value) (c : Cl) (ho : i64 c.o) (w : World) (hl : l.length ≤ 30) (hA : Holds w v l) (hfb : i64 c.f) (he : (mapR (someL l) c).2.1 = 0) (hodd : c.f.tmod 2 ≠ 1) :
    Calls Try.prog 8 #[v, c.v] w fun e w' => e = .returned (.bool true) ∧ Below w.heap.size w w' := by
  have W0 := Lib.hid map_awake
  have G := Lib.hid ((Bag.new w).add 24 c.cells)
  have KL := Lib.hid (hA.still G.out.bel)
  have HA0 := Lib.hid hA
  have CS : Hid (∀ w' u, Holds w' u l → Calls Try.prog 10 #[u] w' fun e w'' => ∃ v', e = .returned v' ∧ Mine w'.heap.size w'' v' (someL l) ∧ Below w'.heap.size w' w'') := Lib.hid (fun w' u h => some_c h (by omega))
  have hX := someL_may l
  generalize someL l = X at *
  have hXl : X.length ≤ 10000 := by have := hX.2; omega
  obtain ⟨ck, ca, cn, cnw, ctw, cp, cf, cb, co⟩ := c
  simp only [Cl.cells] at *
  unfold Cl.v
  simp only [Cl.cells]
  obtain ⟨Y, x1, nn, hr, hYl, hsm, hum, hn0, hn1, hx0, hx1, hnn⟩ : ∃ Y x1 nn, mapR X ⟨ck, ca, cn, cnw, ctw, cp, cf, cb, co⟩ = (Y, 0, x1) ∧ Y.length ≤ 10000 ∧ ¬ SomeS (spK X X.length) x1 (x1 + 4096 * nn) ∧ umR Y ⟨0, x1, cn, 0, 0, 0, 0, 0, 0⟩ = (X, 0, 0) ∧ (0 < cn ∧ cn ≤ 2031616) ∧ (0 ≤ nn ∧ nn ≤ 496) ∧ 65536 ≤ x1 ∧ x1 ≤ 2097152 ∧ nn = (cn + 4095) / 4096 := by
    rcases mapR_is X ⟨ck, ca, cn, cnw, ctw, cp, cf, cb, co⟩ with ⟨h, _⟩ | ⟨h1, h2, h3⟩
    · exact absurd he h
    · have hf := (fg_zero hfb).1 h1.f
      try simp only at hf
      have hb1 : bitF cf 1 = false := by
        rw [(bits_byte (f := cf) (by omega) (by omega)).1, decide_eq_false]
        rw [Int.tmod_eq_emod_of_nonneg (by omega)] at hodd
        exact hodd
      have hb := free_back h1 h2 hb1 0 0 0 0 0 0 0
      have hsz := sz_ok h1.n
      have hsp := sz_pages h1.n
      have hnum := formed_num h1.formed
      try simp only at hb
      try simp only at hsz
      try simp only at hsp
      have e : szV cn = 4096 * ((cn + 4095) / 4096) := by omega
      rw [e] at hb
      exact ⟨_, _, _, h3, by omega, hb.1, hb.2, by omega, by omega, by omega, by omega, rfl⟩
  have C1 : Hid (∀ w' u, Holds w' u X → Calls Try.prog 11 #[u, .agg #[.int .i64 ck, .int .i64 ca, .int .i64 cn, .int .i64 cnw, .int .i64 ctw, .int .i64 cp, .int .i64 cf, .int .i64 cb, .int .i64 co]] w' fun e w'' => ∃ v', e = .returned (.tuple #[v', .agg #[.int .i64 0, .int .i64 x1, .int .i64 0, .bool false, .int .i64 0, .int .i64 0]]) ∧ Mine w'.heap.size w'' v' Y ∧ Below w'.heap.size w' w'') := Lib.hid (fun w' u h => by
    have := map_c h hXl ⟨ck, ca, cn, cnw, ctw, cp, cf, cb, co⟩ ho
    rw [hr] at this
    exact this)
  have C2 : Hid (∀ w' u, Holds w' u Y → Calls Try.prog 14 #[u, .agg #[.int .i64 0, .int .i64 x1, .int .i64 cn, .int .i64 0, .int .i64 0, .int .i64 0, .int .i64 0, .int .i64 0, .int .i64 0]] w' fun e w'' => ∃ v', e = .returned (.tuple #[v', .agg #[.int .i64 0, .int .i64 0, .int .i64 0, .bool false, .int .i64 0, .int .i64 0]]) ∧ Mine w'.heap.size w'' v' X ∧ Below w'.heap.size w' w'') := Lib.hid (fun w' u h => by
    have := unmap_c h hYl ⟨0, x1, cn, 0, 0, 0, 0, 0, 0⟩
    rw [hum] at this
    exact this)
  have CO : Hid (∀ w' u, Holds w' u X → Calls Try.prog 19 #[u] w' fun e w'' => e = .returned (.agg (spl (spK X X.length) 512).toArray) ∧ Below w'.heap.size w' w'') := Lib.hid (fun w' u h => by
    obtain ⟨A, c, rfl, hc, hA⟩ := h
    exact ofL_any X hX.1 A c w' hA)
  have CM : Hid (∀ w', Calls Try.prog 20 #[.agg (spl (spK X X.length) 512).toArray, .int .i64 x1, .int .i64 (x1 + 4096 * nn)] w' fun e w'' => e = .returned (.bool false) ∧ Below w'.heap.size w' w'') := Lib.hid (fun w' => refSome_any (spK X X.length) x1 (x1 + 4096 * nn) ⟨fun h => (by cases h), fun h => absurd h hsm⟩ w')
  have CQ : Hid (∀ w' u u', Holds w' u X → Holds w' u' X → Calls Try.prog 12 #[u, u'] w' fun e w'' => e = .returned (.bool true) ∧ Below w'.heap.size w' w'') := Lib.hid (fun w' u u' h h' => same_c h h' rfl hX.1)
  have ho' : (cf.tmod 2 == 1) = false := by simpa using hodd
  obtain ⟨hn00, hn01⟩ := hn0
  obtain ⟨hn10, hn11⟩ := hn1
  have t1 : (cn + 4095).tdiv 4096 = nn := by rw [hnn, Int.tdiv_eq_ediv_of_nonneg (by omega)]
  have t2 : (cn + 4095) / 4096 = nn := hnn.symm
  clear hX hXl hr ho hYl hsm hum hnn hodd he hfb
  generalize spK X X.length = s at *
  obtain ⟨A, cc, rfl⟩ := hA.is
  clear hA
  generalize hn : l.length = n at *
  clear hn
  have hz : ¬ (30 : Int) < (n : Int) := by omega
  go_enter Try.func8, Try.ntmps8
  go_wp2_with fail
  refine (W0.out _).mono ?_
  rintro e w1 ⟨rfl, hb⟩
  have G := Lib.hid (G.out.still hb)
  have KL := Lib.hid (KL.out.still hb)
  clear hb
  go_wp2_with fail
  refine (CS.out _ _ KL.out).mono ?_
  rintro e w2 ⟨vx, rfl, hm, hb⟩
  have SZ := Lib.hid G.out.bel.size
  have G := Lib.hid (G.out.still hb)
  have KX := Lib.hid (hm.base SZ.out)
  clear hb hm CS KL SZ
  obtain ⟨c0, c1, c2, c3, c4, c5, c6, c7, c8⟩ := nine G.out.v0
  go_wp2_with fail
  refine (C1.out _ _ KX.out.holds).mono ?_
  rintro e w3 ⟨vKY, rfl, hm, hb⟩
  have SZ := Lib.hid G.out.bel.size
  have G := Lib.hid (G.out.still hb)
  have KX := Lib.hid (KX.out.still hb)
  have KY := Lib.hid (hm.base SZ.out)
  clear hb hm C1 SZ
  have BN := Lib.hid (below_new w3 (.cells #[.int .i64 0, .int .i64 x1, .int .i64 0, .bool false, .int .i64 0, .int .i64 0] 31))
  have G := Lib.hid (G.out.add 31 #[.int .i64 0, .int .i64 x1, .int .i64 0, .bool false, .int .i64 0, .int .i64 0])
  have KX := Lib.hid (KX.out.still BN.out)
  have KY := Lib.hid (KY.out.still BN.out)
  clear BN
  go_upto_region 5 with (fail)
  clear c0 c1 c2 c3 c4 c5 c6 c7 c8
  obtain ⟨c0, c1, c2, c3, c4, c5, c6, c7, c8⟩ := nine G.out.v1
  generalize hw3 : World.alloc w3 _ = w3a at *
  clear hw3
  generalize w3.heap.size = qa at *
  obtain ⟨a0, a1, a2, a3, a4, a5⟩ := row6 G.out.v0
  go_wp2_with fail
  refine (CO.out _ _ KX.out.holds).mono ?_
  rintro e w4 ⟨rfl, hb⟩
  have G := Lib.hid (G.out.still hb)
  have KX := Lib.hid (KX.out.still hb)
  have KY := Lib.hid (KY.out.still hb)
  clear hb CO a0 a1 a2 a3 a4 a5
  clear c0 c1 c2 c3 c4 c5 c6 c7 c8
  have HC := Lib.hid (ChAt.new (Below.refl w4.heap.size w4) s)
  have TH : Hid ((w4.alloc (.cells Try.zeroCells44 44)).there w4.heap.size 0 (spl s 512).toArray.size) := Lib.hid (SpIn.there (s := fun _ => none) (by rw [zero_spc]; exact Whole.new _ _ _))
  have G := Lib.hid (G.out.still HC.out.bel)
  have KX := Lib.hid (KX.out.still HC.out.bel)
  have KY := Lib.hid (KY.out.still HC.out.bel)
  obtain ⟨a0, a1, a2, a3, a4, a5⟩ := row6 G.out.v0
  obtain ⟨c0, c1, c2, c3, c4, c5, c6, c7, c8⟩ := nine G.out.v1
  go_wp2_with (first | (refine wpList_store_mid rfl 44 (.tmp 8) (.tmp 38) (by rfl) w4.heap.size 0 (spl s 512).toArray (by rfl) (by rfl) TH.out (space_size' _) (spl_one _ _) ?_) | (refine wpList_load_mid rfl 44 (.tmp 8) (by rfl) w4.heap.size 0 (by rfl) (spl s 512) _ HC.out.s.range Try.underlying44 rfl (space_size _) ?_))
  refine (CM.out _).mono ?_
  rintro e w5 ⟨rfl, hb⟩
  have G := Lib.hid (G.out.still hb)
  have KX := Lib.hid (KX.out.still hb)
  have KY := Lib.hid (KY.out.still hb)
  clear hb CM HC TH a0 a1 a2 a3 a4 a5
  clear c0 c1 c2 c3 c4 c5 c6 c7 c8
  obtain ⟨a0, a1, a2, a3, a4, a5⟩ := row6 G.out.v0
  obtain ⟨c0, c1, c2, c3, c4, c5, c6, c7, c8⟩ := nine G.out.v1
  go_wp2_with fail
  refine (C2.out _ _ KY.out.holds).mono ?_
  rintro e w6 ⟨vKZ, rfl, hm, hb⟩
  have SZ := Lib.hid G.out.bel.size
  have G := Lib.hid (G.out.still hb)
  have KX := Lib.hid (KX.out.still hb)
  have KY := Lib.hid (KY.out.still hb)
  have KZ := Lib.hid (hm.base SZ.out)
  clear hb hm C2 SZ
  have BN := Lib.hid (below_new w6 (.cells #[.int .i64 0, .int .i64 0, .int .i64 0, .bool false, .int .i64 0, .int .i64 0] 31))
  have G := Lib.hid (G.out.add 31 #[.int .i64 0, .int .i64 0, .int .i64 0, .bool false, .int .i64 0, .int .i64 0])
  have KX := Lib.hid (KX.out.still BN.out)
  have KY := Lib.hid (KY.out.still BN.out)
  have KZ := Lib.hid (KZ.out.still BN.out)
  clear BN
  clear a0 a1 a2 a3 a4 a5
  clear c0 c1 c2 c3 c4 c5 c6 c7 c8
  go_wp2_with fail
  refine (CQ.out _ _ _ KX.out.holds KZ.out.holds).mono ?_
  rintro e w7 ⟨rfl, hb⟩
  have G := Lib.hid (G.out.still hb)
  have KX := Lib.hid (KX.out.still hb)
  have KY := Lib.hid (KY.out.still hb)
  have KZ := Lib.hid (KZ.out.still hb)
  clear hb
  go_wp2_with fail
  go_ret
  exact ⟨rfl, G.out.bel⟩

theorem free_all (l : List Ar) (v : Value) (c : Cl) (ho : i64 c.o) (hfb : i64 c.f) (w : World) (hA : Holds w v l) :
    Calls Try.prog 8 #[v, c.v] w fun e w' => e = .returned (.bool true) ∧ Below w.heap.size w w' := by
  by_cases hl : l.length ≤ 30
  · by_cases he : (mapR (someL l) c).2.1 = 0
    · by_cases hx : c.f.tmod 2 = 1
      · exact free_odd l v c ho w hl hA he hx
      · exact free_go l v c ho w hl hA hfb he hx
    · exact free_err l v c ho w hl hA he
  · obtain ⟨A, cc, rfl⟩ := hA.is
    exact free_many A l.length cc c w (by omega)
end Go.Proofs.Ytfejoeidffnadaa
