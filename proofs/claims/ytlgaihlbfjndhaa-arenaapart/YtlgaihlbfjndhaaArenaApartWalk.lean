/-
  Layer 2: the walk of the statement on two words of two slots.
-/
import Derived.Test.YtlgaihlbfjndhaaArenaLaw
namespace Go.Proofs.Ytlgaihlbfjndhaa
open Go.ChangeShapes Go.WideShapes Go.ChangeAt Go.RowKit
set_option linter.unusedVariables false

theorem cellOf_in {fst : Int} {n : Nat} {h word : Int} (hf : 0 ≤ fst) (hc : 0 ≤ cellOf fst n h word) : (1 ≤ slotOf h ∧ slotOf h ≤ n) ∧ (0 ≤ word ∧ word < 28) ∧ cellOf fst n h word = fst + 28 * (slotOf h - 1) + word := by
  unfold cellOf at hc ⊢
  by_cases hh : (1 ≤ slotOf h ∧ slotOf h ≤ n) ∧ 0 ≤ word ∧ word < 28
  · rw [if_pos hh]; exact ⟨hh.1, hh.2, rfl⟩
  · rw [if_neg hh] at hc; omega

theorem apart_ends {w w1 w2 w3 : World} (h1 : Below w.heap.size w w1) (h2 : Below w1.heap.size w1 w2) (h3 : Below w2.heap.size w2 w3) : Below w.heap.size w w3 := by
  have h12 := h1.trans (h2.mono h1.size)
  exact h12.trans (h3.mono h12.size)

set_option maxHeartbeats 2000000 in
theorem apart_any (a b v u : Int) (w : World) (ha : a ≤ 9223372036854775807) (hb : b ≤ 9223372036854775807) :
    Calls Try.prog 5 #[.agg #[.int .i64 a, .int .i64 b], .agg #[.int .i64 v, .int .i64 u]] w fun e w' => e = .returned (.bool true) ∧ Below w.heap.size w w' := by
  have e3 : slotsOf 50 = 50 := rfl
  have e0 : firstOf 100 = 100 := rfl
  have E3 := Lib.hid e3
  have E0 := Lib.hid e0
  clear e3 e0
  go_enter Try.func5, Try.ntmps5
  go_wp2_with fail
  go_quiet (fail)
  go_wp2_with fail
  refine (arNew_ex _ _ _).mono ?_
  rw [E3.out, E0.out]
  rintro e w1 ⟨xb, xg, rfl, har, hx1, hx2, hb1⟩
  have hbw : Below w.heap.size w w1 := by
    refine Below.trans ?_ (hb1.mono (by simp; omega))
    exact below_drewN (((Below.refl _ _).alloc (Nat.le_refl _) _).alloc (by simp) _) _
  have HBW := Lib.hid hbw
  have HA := Lib.hid har
  clear har hx1 hx2 hb1 hbw
  go_wp2_with fail
  refine (cell_any a v HA.out ha).mono ?_
  rw [fresh_length]
  rintro e w' ⟨rfl, rfl⟩
  go_wp2_with fail
  refine (cell_any b u HA.out hb).mono ?_
  rw [fresh_length]
  rintro e w' ⟨rfl, rfl⟩
  go_wp2_with fail
  refine (arAwake _).mono ?_
  rintro e w2 ⟨rfl, hb2⟩
  have HB2 := Lib.hid hb2
  clear hb2
  by_cases hc : cellOf 100 50 a v < 0
  · generalize cellOf 100 50 a v = c at *
    generalize cellOf 100 50 b u = d at *
    go_wp2_with fail
    refine (arAwake _).mono ?_
    rintro e w3 ⟨rfl, hb3⟩
    go_wp2_with fail
    go_ret
    exact ⟨rfl, apart_ends HBW.out HB2.out hb3⟩
  · by_cases hd : cellOf 100 50 b u < 0
    · generalize cellOf 100 50 a v = c at *
      generalize cellOf 100 50 b u = d at *
      go_wp2_with fail
      refine (arAwake _).mono ?_
      rintro e w3 ⟨rfl, hb3⟩
      go_wp2_with fail
      go_ret
      exact ⟨rfl, apart_ends HBW.out HB2.out hb3⟩
    · obtain ⟨⟨a1, a2⟩, ⟨a3, a4⟩, ac⟩ := cellOf_in (by omega) (show 0 ≤ cellOf 100 50 a v by omega)
      obtain ⟨⟨b1, b2⟩, ⟨b3, b4⟩, bc⟩ := cellOf_in (by omega) (show 0 ≤ cellOf 100 50 b u by omega)
      have hc1 : 100 ≤ cellOf 100 50 a v := by omega
      have hc2 : cellOf 100 50 a v < 1500 := by omega
      have hc3 : 0 ≤ cellOf 100 50 a v := by omega
      have hd3 : 0 ≤ cellOf 100 50 b u := by omega
      have KEY : Hid (cellOf 100 50 a v = cellOf 100 50 b u ↔ slotOf a = slotOf b ∧ v = u) := by unfold Hid; omega
      clear ac bc hc hd
      generalize cellOf 100 50 a v = c at *
      generalize cellOf 100 50 b u = d at *
      by_cases hs : slotOf a = slotOf b
      · have hsb : (slotOf a == slotOf b) = true := beq_iff_eq.2 hs
        by_cases hv : v = u
        · have hvb : (v == u) = true := beq_iff_eq.2 hv
          have hcd : (c == d) = true := beq_iff_eq.2 (KEY.out.2 ⟨hs, hv⟩)
          clear hs hv
          go_wp2_with fail
          refine (slot_any a _ ha).mono ?_
          rintro e w' ⟨rfl, rfl⟩
          go_wp2_with fail
          refine (slot_any b _ hb).mono ?_
          rintro e w' ⟨rfl, rfl⟩
          go_wp2_with fail
          go_ret
          exact ⟨rfl, HBW.out.trans (HB2.out.mono HBW.out.size)⟩
        · have hvb : (v == u) = false := beq_eq_false_iff_ne.2 hv
          have hcd : (c == d) = false := beq_eq_false_iff_ne.2 (fun h => hv (KEY.out.1 h).2)
          clear hs hv
          go_wp2_with fail
          refine (slot_any a _ ha).mono ?_
          rintro e w' ⟨rfl, rfl⟩
          go_wp2_with fail
          refine (slot_any b _ hb).mono ?_
          rintro e w' ⟨rfl, rfl⟩
          go_wp2_with fail
          go_ret
          exact ⟨rfl, HBW.out.trans (HB2.out.mono HBW.out.size)⟩
      · have hsb : (slotOf a == slotOf b) = false := beq_eq_false_iff_ne.2 hs
        have hcd : (c == d) = false := beq_eq_false_iff_ne.2 (fun h => hs (KEY.out.1 h).1)
        clear hs
        go_wp2_with fail
        refine (slot_any a _ ha).mono ?_
        rintro e w' ⟨rfl, rfl⟩
        go_wp2_with fail
        refine (slot_any b _ hb).mono ?_
        rintro e w' ⟨rfl, rfl⟩
        go_wp2_with fail
        go_ret
        exact ⟨rfl, HBW.out.trans (HB2.out.mono HBW.out.size)⟩
end Go.Proofs.Ytlgaihlbfjndhaa
