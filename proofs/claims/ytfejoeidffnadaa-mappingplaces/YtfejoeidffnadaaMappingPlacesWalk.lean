/-
  Layer 10: of all lists, addresses, sizes and flags the place, or its error, is the reference's; of lists that may not come nothing is done.
-/
import Derived.Test.YtfejoeidffnadaaPkT
import Derived.Test.YtfejoeidffnadaaPkR
namespace Go.Proofs.Ytfejoeidffnadaa
open Go.ChangeShapes Go.WideShapes Go.ChangeAt Go.RowKit Go.Shelf
set_option linter.unusedVariables false
attribute [local go_sem ↓] Go.wp_at_zero Go.wp_at_succ

/-- An array of two numbers. -/
def twoP (x y : Int) : Value := .agg #[.int .i64 x, .int .i64 y]
theorem wrong_map {X : List Ar} (h : ¬ MayL X) (c : Cl) : mapR X c = (X, 1, 0) ∧ umR X c = (X, 1, 0) := by
  have h1 : wtE X c = 1 := by unfold wtE liE; rw [if_neg h, firstE, if_neg (by omega)]
  have h2 : umE X c = 1 := by unfold umE liE; rw [if_neg h, firstE, if_neg (by omega)]
  constructor
  · unfold mapR; rw [if_neg (by rw [h1]; omega), h1]
  · unfold umR; rw [if_neg (by rw [h2]; omega), h2]
set_option maxHeartbeats 2000000 in
theorem places_many (A : Option Addr) (n cc : Nat) (t0 t1 f : Int) (w : World) (hn : 30 < n) :
    Calls Try.prog 7 #[.slice A n cc, twoP t0 t1, .int .u8 f] w fun e w' => e = .returned (.bool true) ∧ Below w.heap.size w w' := by
  have W0 := Lib.hid map_awake
  have G := Lib.hid ((Bag.new w).add 36 #[.int .i64 t0, .int .i64 t1])
  have hz : (30 : Int) < (n : Int) := by omega
  unfold twoP
  go_enter Try.func7, Try.ntmps7
  go_wp2_with fail
  refine (W0.out _).mono ?_
  rintro e w1 ⟨rfl, hb⟩
  have G := Lib.hid (G.out.still hb)
  clear hb
  go_wp2_with fail
  refine (W0.out _).mono ?_
  rintro e w2 ⟨rfl, hb⟩
  have G := Lib.hid (G.out.still hb)
  clear hb
  go_wp2_with fail
  go_ret
  exact ⟨rfl, G.out.bel⟩

set_option maxRecDepth 4000 in
set_option maxHeartbeats 8000000 in
theorem places_right (l : List Ar) (v : Value) (t0 t1 f : Int) (hs : t1 ≤ 9223372036854775807) (hf0 : 0 ≤ f) (hf1 : f < 256) (w : World) (hl : l.length ≤ 30) (hA : Holds w v l) (hX : MayL l) :
    Calls Try.prog 7 #[v, twoP t0 t1, .int .u8 f] w fun e w' => e = .returned (.bool true) ∧ Below w.heap.size w w' := by
  have W0 := Lib.hid map_awake
  have G := Lib.hid ((Bag.new w).add 36 #[.int .i64 t0, .int .i64 t1])
  have KL := Lib.hid (hA.still G.out.bel)
  obtain ⟨p1, p2, hp⟩ : ∃ p1 p2, plR l t0 t1 f = (p1, p2) := ⟨_, _, rfl⟩
  have CP : Hid (∀ w' u, Holds w' u l → Calls Try.prog 16 #[u, .int .i64 t0, .int .i64 t1, .int .i64 f] w' fun e w'' => e = .returned (.tuple #[.int .i64 p1, .int .i64 p2]) ∧ Below w'.heap.size w' w'') := Lib.hid (fun w' u h => by
    have := place_c h hX t0 t1 f hs
    rw [hp] at this
    exact this)
  have CY : Hid (∀ w' u, Holds w' u l → Calls Try.prog 17 #[u] w' fun e w'' => e = .returned (.bool true) ∧ Below w'.heap.size w' w'') := Lib.hid (fun w' u h => refMay_c h (by omega) ⟨fun _ => hX, fun _ => rfl⟩)
  have CZ : Hid (∀ w' u, Holds w' u l → Calls Try.prog 18 #[u, .int .i64 t0, .int .i64 t1, .int .i64 f] w' fun e w'' => e = .returned (.tuple #[.int .i64 p1, .int .i64 p2]) ∧ Below w'.heap.size w' w'') := Lib.hid (fun w' u h => by
    have := refPlace_c h hX t0 t1 f hf0 hf1
    rw [hp] at this
    exact this)
  clear hX hs hp
  unfold twoP
  obtain ⟨A, cc, rfl⟩ := hA.is
  clear hA
  generalize hn : l.length = n at *
  clear hn
  have hz : ¬ (30 : Int) < (n : Int) := by omega
  go_enter Try.func7, Try.ntmps7
  go_wp2_with fail
  refine (W0.out _).mono ?_
  rintro e w1 ⟨rfl, hb⟩
  have G := Lib.hid (G.out.still hb)
  have KL := Lib.hid (KL.out.still hb)
  clear hb
  obtain ⟨b0, b1⟩ : _ ∧ _ := ⟨G.out.v0.cell 0, G.out.v0.cell 1⟩
  simp at b0 b1
  go_wp2_with fail
  refine (CP.out _ _ KL.out).mono ?_
  rintro e w2 ⟨rfl, hb⟩
  have G := Lib.hid (G.out.still hb)
  have KL := Lib.hid (KL.out.still hb)
  clear hb CP b0 b1
  go_wp2_with fail
  refine (CY.out _ _ KL.out).mono ?_
  rintro e w3 ⟨rfl, hb⟩
  have G := Lib.hid (G.out.still hb)
  have KL := Lib.hid (KL.out.still hb)
  clear hb CY
  obtain ⟨b0, b1⟩ : _ ∧ _ := ⟨G.out.v0.cell 0, G.out.v0.cell 1⟩
  simp at b0 b1
  go_wp2_with fail
  refine (CZ.out _ _ KL.out).mono ?_
  rintro e w4 ⟨rfl, hb⟩
  have G := Lib.hid (G.out.still hb)
  have KL := Lib.hid (KL.out.still hb)
  clear hb CZ b0 b1
  go_wp2_with fail
  go_ret
  exact ⟨rfl, G.out.bel⟩

set_option maxRecDepth 4000 in
set_option maxHeartbeats 8000000 in
theorem places_wrong (l : List Ar) (v : Value) (t0 t1 f : Int) (hs : t1 ≤ 9223372036854775807) (hf0 : 0 ≤ f) (hf1 : f < 256) (w : World) (hl : l.length ≤ 30) (hA : Holds w v l) (hX : ¬ MayL l) :
    Calls Try.prog 7 #[v, twoP t0 t1, .int .u8 f] w fun e w' => e = .returned (.bool true) ∧ Below w.heap.size w w' := by
  have W0 := Lib.hid map_awake
  have G := Lib.hid ((Bag.new w).add 36 #[.int .i64 t0, .int .i64 t1])
  have KL := Lib.hid (hA.still G.out.bel)
  have CP : Hid (∀ w' u, Holds w' u l → Calls Try.prog 16 #[u, .int .i64 t0, .int .i64 t1, .int .i64 f] w' fun e w'' => e = .returned (.tuple #[.int .i64 0, .int .i64 1]) ∧ Below w'.heap.size w' w'') := Lib.hid (fun w' u h => place_wrong h (by omega) hX t0 t1 f)
  have CY : Hid (∀ w' u, Holds w' u l → Calls Try.prog 17 #[u] w' fun e w'' => e = .returned (.bool false) ∧ Below w'.heap.size w' w'') := Lib.hid (fun w' u h => refMay_c h (by omega) ⟨fun h => (by cases h), fun h => absurd h hX⟩)
  have C1 : Hid (∀ w' u, Holds w' u l → Calls Try.prog 11 #[u, .agg #[.int .i64 0, .int .i64 0, .int .i64 1, .int .i64 0, .int .i64 0, .int .i64 0, .int .i64 0, .int .i64 0, .int .i64 0]] w' fun e w'' => ∃ v', e = .returned (.tuple #[v', .agg #[.int .i64 1, .int .i64 0, .int .i64 0, .bool false, .int .i64 0, .int .i64 0]]) ∧ Mine w'.heap.size w'' v' l ∧ Below w'.heap.size w' w'') := Lib.hid (fun w' u h => by
    have := map_c h (by omega) ⟨0, 0, 1, 0, 0, 0, 0, 0, 0⟩ ⟨by decide, by decide⟩
    rw [(wrong_map hX _).1] at this
    exact this)
  have C2 : Hid (∀ w' u, Holds w' u l → Calls Try.prog 14 #[u, .agg #[.int .i64 0, .int .i64 65536, .int .i64 1, .int .i64 0, .int .i64 0, .int .i64 0, .int .i64 0, .int .i64 0, .int .i64 0]] w' fun e w'' => ∃ v', e = .returned (.tuple #[v', .agg #[.int .i64 1, .int .i64 0, .int .i64 0, .bool false, .int .i64 0, .int .i64 0]]) ∧ Mine w'.heap.size w'' v' l ∧ Below w'.heap.size w' w'') := Lib.hid (fun w' u h => by
    have := unmap_c h (by omega) ⟨0, 65536, 1, 0, 0, 0, 0, 0, 0⟩
    rw [(wrong_map hX _).2] at this
    exact this)
  have CQ : Hid (∀ w' u u', Holds w' u l → Holds w' u' l → Calls Try.prog 12 #[u, u'] w' fun e w'' => e = .returned (.bool true) ∧ Below w'.heap.size w' w'') := Lib.hid (fun w' u u' h h' => by
    obtain ⟨A, c, rfl, hc, hA⟩ := h
    obtain ⟨A', c', rfl, hc', hA'⟩ := h'
    exact refSame_any A A' c c' l (by omega) w' hA hA')
  clear hX hs
  unfold twoP
  obtain ⟨A, cc, rfl⟩ := hA.is
  clear hA
  generalize hn : l.length = n at *
  clear hn
  have hz : ¬ (30 : Int) < (n : Int) := by omega
  go_enter Try.func7, Try.ntmps7
  go_wp2_with fail
  refine (W0.out _).mono ?_
  rintro e w1 ⟨rfl, hb⟩
  have G := Lib.hid (G.out.still hb)
  have KL := Lib.hid (KL.out.still hb)
  clear hb
  obtain ⟨b0, b1⟩ : _ ∧ _ := ⟨G.out.v0.cell 0, G.out.v0.cell 1⟩
  simp at b0 b1
  go_wp2_with fail
  refine (CP.out _ _ KL.out).mono ?_
  rintro e w2 ⟨rfl, hb⟩
  have G := Lib.hid (G.out.still hb)
  have KL := Lib.hid (KL.out.still hb)
  clear hb CP b0 b1
  go_wp2_with fail
  refine (CY.out _ _ KL.out).mono ?_
  rintro e w3 ⟨rfl, hb⟩
  have G := Lib.hid (G.out.still hb)
  have KL := Lib.hid (KL.out.still hb)
  clear hb CY
  go_wp2_with fail
  refine (C1.out _ _ KL.out).mono ?_
  rintro e w4 ⟨vKM, rfl, hm, hb⟩
  have SZ := Lib.hid G.out.bel.size
  have G := Lib.hid (G.out.still hb)
  have KL := Lib.hid (KL.out.still hb)
  have KM := Lib.hid (hm.base SZ.out)
  clear hb hm C1 SZ
  have BN := Lib.hid (below_new w4 (.cells #[.int .i64 1, .int .i64 0, .int .i64 0, .bool false, .int .i64 0, .int .i64 0] 31))
  have G := Lib.hid (G.out.add 31 #[.int .i64 1, .int .i64 0, .int .i64 0, .bool false, .int .i64 0, .int .i64 0])
  have KL := Lib.hid (KL.out.still BN.out)
  have KM := Lib.hid (KM.out.still BN.out)
  clear BN
  go_wp2_with fail
  refine (C2.out _ _ KL.out).mono ?_
  rintro e w5 ⟨vKU, rfl, hm, hb⟩
  have SZ := Lib.hid G.out.bel.size
  have G := Lib.hid (G.out.still hb)
  have KL := Lib.hid (KL.out.still hb)
  have KM := Lib.hid (KM.out.still hb)
  have KU := Lib.hid (hm.base SZ.out)
  clear hb hm C2 SZ
  have BN := Lib.hid (below_new w5 (.cells #[.int .i64 1, .int .i64 0, .int .i64 0, .bool false, .int .i64 0, .int .i64 0] 31))
  have G := Lib.hid (G.out.add 31 #[.int .i64 1, .int .i64 0, .int .i64 0, .bool false, .int .i64 0, .int .i64 0])
  have KL := Lib.hid (KL.out.still BN.out)
  have KM := Lib.hid (KM.out.still BN.out)
  have KU := Lib.hid (KU.out.still BN.out)
  clear BN
  obtain ⟨a0, a1, a2, a3, a4, a5⟩ := row6 G.out.v1
  go_wp2_with fail
  refine (CQ.out _ _ _ KM.out.holds KL.out).mono ?_
  rintro e w6 ⟨rfl, hb⟩
  have G := Lib.hid (G.out.still hb)
  have KL := Lib.hid (KL.out.still hb)
  have KM := Lib.hid (KM.out.still hb)
  have KU := Lib.hid (KU.out.still hb)
  clear hb
  go_wp2_with fail
  refine (CQ.out _ _ _ KU.out.holds KL.out).mono ?_
  rintro e w7 ⟨rfl, hb⟩
  have G := Lib.hid (G.out.still hb)
  have KL := Lib.hid (KL.out.still hb)
  have KM := Lib.hid (KM.out.still hb)
  have KU := Lib.hid (KU.out.still hb)
  clear hb
  go_wp2_with fail
  go_ret
  exact ⟨rfl, G.out.bel⟩

theorem places_any (l : List Ar) (v : Value) (t0 t1 f : Int) (hs : t1 ≤ 9223372036854775807) (hf0 : 0 ≤ f) (hf1 : f < 256) (w : World) (hA : Holds w v l) :
    Calls Try.prog 7 #[v, twoP t0 t1, .int .u8 f] w fun e w' => e = .returned (.bool true) ∧ Below w.heap.size w w' := by
  by_cases hl : l.length ≤ 30
  · by_cases hX : MayL l
    · exact places_right l v t0 t1 f hs hf0 hf1 w hl hA hX
    · exact places_wrong l v t0 t1 f hs hf0 hf1 w hl hA hX
  · obtain ⟨A, cc, rfl⟩ := hA.is
    exact places_many A l.length cc t0 t1 f w (by omega)
end Go.Proofs.Ytfejoeidffnadaa
