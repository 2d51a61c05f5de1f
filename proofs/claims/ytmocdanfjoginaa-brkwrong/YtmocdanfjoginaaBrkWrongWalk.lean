/-
  Layer 13: of lists that may not come nothing is done.
-/
import Derived.Test.YtmocdanfjoginaaPkBc
import Derived.Test.YtmocdanfjoginaaPkR
namespace Go.Proofs.Ytmocdanfjoginaa
open Go.ChangeShapes Go.WideShapes Go.ChangeAt Go.RowKit Go.Shelf
set_option linter.unusedVariables false
attribute [local go_sem ↓] Go.wp_at_zero Go.wp_at_succ

set_option maxHeartbeats 2000000 in
theorem bwrong_many (A : Option Addr) (n cc : Nat) (now : Int) (c : Cl) (w : World) (hn : 40 < n) :
    Calls Try.prog 5 #[.slice A n cc, .int .i64 now, c.v] w fun e w' => e = .returned (.bool true) ∧ Below w.heap.size w w' := by
  have W0 := Lib.hid bk_awake
  have G := Lib.hid ((Bag.new w).add 33 c.cells)
  have hz : (40 : Int) < (n : Int) := by omega
  obtain ⟨ck, ca, cn, cnw, ctw, cp, cf, cb, co⟩ := c
  unfold Cl.v
  simp only [Cl.cells] at *
  go_enter Try.func5, Try.ntmps5
  go_wp2_with fail
  refine (W0.out _).mono ?_
  rintro e w1 ⟨rfl, hb⟩
  have G := Lib.hid (G.out.still hb)
  clear hb
  go_wp2_with fail
  refine (W0.out _).mono ?_
  rintro e w2 ⟨rfl, hb⟩
  have G := Lib.hid (G.out.still hb)
  clear hb
  go_wp2_with fail
  go_ret
  exact ⟨rfl, G.out.bel⟩

set_option maxRecDepth 4000 in
set_option maxHeartbeats 8000000 in
theorem bwrong_may (l : List Ar) (v : Value) (now : Int) (c : Cl) (w : World) (hl : l.length ≤ 40) (hA : Holds w v l) (hX : MayL l) :
    Calls Try.prog 5 #[v, .int .i64 now, c.v] w fun e w' => e = .returned (.bool true) ∧ Below w.heap.size w w' := by
  have W0 := Lib.hid bk_awake
  have G := Lib.hid ((Bag.new w).add 33 c.cells)
  have KL := Lib.hid (hA.still G.out.bel)
  obtain ⟨ck, ca, cn, cnw, ctw, cp, cf, cb, co⟩ := c
  simp only [Cl.cells] at *
  unfold Cl.v
  simp only [Cl.cells]
  have CY : Hid (∀ w' u, Holds w' u l → Calls Try.prog 15 #[u] w' fun e w'' => e = .returned (.bool true) ∧ Below w'.heap.size w' w'') := Lib.hid (fun w' u h => refMay_c h (by omega) ⟨fun _ => hX, fun _ => rfl⟩)
  clear hX
  obtain ⟨A, cc, rfl⟩ := hA.is
  clear hA
  generalize hn : l.length = n at *
  clear hn
  have hz : ¬ (40 : Int) < (n : Int) := by omega
  go_enter Try.func5, Try.ntmps5
  go_wp2_with fail
  refine (W0.out _).mono ?_
  rintro e w1 ⟨rfl, hb⟩
  have G := Lib.hid (G.out.still hb)
  have KL := Lib.hid (KL.out.still hb)
  clear hb
  go_wp2_with fail
  refine (CY.out _ _ KL.out).mono ?_
  rintro e w2 ⟨rfl, hb⟩
  have G := Lib.hid (G.out.still hb)
  have KL := Lib.hid (KL.out.still hb)
  clear hb CY
  go_wp2_with fail
  refine (W0.out _).mono ?_
  rintro e w3 ⟨rfl, hb⟩
  have G := Lib.hid (G.out.still hb)
  have KL := Lib.hid (KL.out.still hb)
  clear hb
  go_wp2_with fail
  go_ret
  exact ⟨rfl, G.out.bel⟩

set_option maxRecDepth 4000 in
set_option maxHeartbeats 8000000 in
theorem bwrong_not (l : List Ar) (v : Value) (now : Int) (c : Cl) (w : World) (hl : l.length ≤ 40) (hA : Holds w v l) (hX : ¬ MayL l) :
    Calls Try.prog 5 #[v, .int .i64 now, c.v] w fun e w' => e = .returned (.bool true) ∧ Below w.heap.size w w' := by
  have W0 := Lib.hid bk_awake
  have G := Lib.hid ((Bag.new w).add 33 c.cells)
  have KL := Lib.hid (hA.still G.out.bel)
  obtain ⟨ck, ca, cn, cnw, ctw, cp, cf, cb, co⟩ := c
  simp only [Cl.cells] at *
  unfold Cl.v
  simp only [Cl.cells]
  have CY : Hid (∀ w' u, Holds w' u l → Calls Try.prog 15 #[u] w' fun e w'' => e = .returned (.bool false) ∧ Below w'.heap.size w' w'') := Lib.hid (fun w' u h => refMay_c h (by omega) ⟨fun h => (by cases h), fun h => absurd h hX⟩)
  have hr : bkR l now ca = (l, now, 1, 0) := by
    have he : bwE l now (bkTo now ca) = 1 := by rw [bwE_is, if_neg (fun k => hX k.1)]
    unfold bkR
    rw [bwE_ne (by rw [he]; decide), he, if_neg (by decide)]
  have C1 : Hid (∀ w' u, Holds w' u l → Calls Try.prog 9 #[u, .int .i64 now, .agg #[.int .i64 ck, .int .i64 ca, .int .i64 cn, .int .i64 cnw, .int .i64 ctw, .int .i64 cp, .int .i64 cf, .int .i64 cb, .int .i64 co]] w' fun e w'' => ∃ v', e = .returned (.tuple #[v', .int .i64 now, .agg #[.int .i64 1, .int .i64 0, .int .i64 0, .bool false, .int .i64 0, .int .i64 0]]) ∧ Mine w'.heap.size w'' v' l ∧ Below w'.heap.size w' w'') := Lib.hid (fun w' u h => by
    have := move_c h (by omega) now ⟨ck, ca, cn, cnw, ctw, cp, cf, cb, co⟩
    rw [hr] at this
    exact this)
  have CQ : Hid (∀ w' u u', Holds w' u l → Holds w' u' l → Calls Try.prog 11 #[u, u'] w' fun e w'' => e = .returned (.bool true) ∧ Below w'.heap.size w' w'') := Lib.hid (fun w' u u' h h' => by
    obtain ⟨A, c, rfl, hc, hA⟩ := h
    obtain ⟨A', c', rfl, hc', hA'⟩ := h'
    exact refSame_any A A' c c' l (by omega) w' hA hA')
  clear hX hr
  obtain ⟨A, cc, rfl⟩ := hA.is
  clear hA
  generalize hn : l.length = n at *
  clear hn
  have hz : ¬ (40 : Int) < (n : Int) := by omega
  go_enter Try.func5, Try.ntmps5
  go_wp2_with fail
  refine (W0.out _).mono ?_
  rintro e w1 ⟨rfl, hb⟩
  have G := Lib.hid (G.out.still hb)
  have KL := Lib.hid (KL.out.still hb)
  clear hb
  go_wp2_with fail
  refine (CY.out _ _ KL.out).mono ?_
  rintro e w2 ⟨rfl, hb⟩
  have G := Lib.hid (G.out.still hb)
  have KL := Lib.hid (KL.out.still hb)
  clear hb CY
  obtain ⟨c0, c1, c2, c3, c4, c5, c6, c7, c8⟩ := nine G.out.v0
  go_wp2_with fail
  refine (C1.out _ _ KL.out).mono ?_
  rintro e w3 ⟨vKM, rfl, hm, hb⟩
  have SZ := Lib.hid G.out.bel.size
  have G := Lib.hid (G.out.still hb)
  have KL := Lib.hid (KL.out.still hb)
  have KM := Lib.hid (hm.base SZ.out)
  clear hb hm C1 SZ c0 c1 c2 c3 c4 c5 c6 c7 c8
  have BN := Lib.hid (below_new w3 (.cells #[.int .i64 1, .int .i64 0, .int .i64 0, .bool false, .int .i64 0, .int .i64 0] 28))
  have G := Lib.hid (G.out.add 28 #[.int .i64 1, .int .i64 0, .int .i64 0, .bool false, .int .i64 0, .int .i64 0])
  have KL := Lib.hid (KL.out.still BN.out)
  have KM := Lib.hid (KM.out.still BN.out)
  clear BN
  obtain ⟨a0, a1, a2, a3, a4, a5⟩ := row6 G.out.v0
  go_wp2_with fail
  refine (CQ.out _ _ _ KM.out.holds KL.out).mono ?_
  rintro e w4 ⟨rfl, hb⟩
  have G := Lib.hid (G.out.still hb)
  have KL := Lib.hid (KL.out.still hb)
  have KM := Lib.hid (KM.out.still hb)
  clear hb
  go_wp2_with fail
  go_ret
  exact ⟨rfl, G.out.bel⟩

theorem bwrong_any (l : List Ar) (v : Value) (now : Int) (c : Cl) (w : World) (hA : Holds w v l) :
    Calls Try.prog 5 #[v, .int .i64 now, c.v] w fun e w' => e = .returned (.bool true) ∧ Below w.heap.size w w' := by
  by_cases hl : l.length ≤ 40
  · by_cases hX : MayL l
    · exact bwrong_may l v now c w hl hA hX
    · exact bwrong_not l v now c w hl hA hX
  · obtain ⟨A, cc, rfl⟩ := hA.is
    exact bwrong_many A l.length cc now c w (by omega)
end Go.Proofs.Ytmocdanfjoginaa
