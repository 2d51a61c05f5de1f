/-
  Layer 8: of all addresses and sizes it is told whether there is room.
-/
import Derived.Test.YtmppodobgkhojaaGapRef
namespace Go.Proofs.Ytmppodobgkhojaa
open Go.ChangeShapes Go.WideShapes Go.ChangeAt Go.RowKit Go.Shelf
set_option linter.unusedVariables false
attribute [local go_sem ↓] Go.wp_at_zero Go.wp_at_succ

theorem fits_num {X : List Ar} {addr size : Int} (h : FitsAt X addr size) : 65536 ≤ addr ∧ addr ≤ 2097152 ∧ addr % 4096 = 0 ∧ 1 ≤ size ∧ size ≤ 2031616 ∧ size % 4096 = 0 := by
  obtain ⟨h1, h2, h3, g, hg, h4, h5⟩ := h
  have := (gapsL_good g hg).lo; have := (gapsL_good g hg).hi
  omega
/-- What the tests ahead let by. -/
structure Asked (addr size : Int) : Prop where
  s1 : 1 ≤ size
  s2 : size ≤ 2031616
  s3 : size.tmod 4096 = 0
  a1 : addr.tmod 4096 = 0
  a2 : 0 ≤ addr
  a3 : addr ≤ 2097152
set_option maxHeartbeats 2000000 in
theorem refFits_no (A : Option Addr) (n c : Nat) (addr size : Int) (h : ¬ Asked addr size) (w : World) :
    Calls Try.prog 20 #[.slice A n c, .int .i64 addr, .int .i64 size] w fun e w' => e = .returned (.bool false) ∧ w' = w := by
  by_cases h1 : 1 ≤ size
  · have g1 : ¬ size < 1 := by omega
    by_cases h2 : size ≤ 2031616
    · have g2 : ¬ 2031616 < size := by omega
      have t3 : size.tmod 4096 = size % 4096 := tmod_up (by omega)
      by_cases h3 : size % 4096 = 0
      · have g3 : (size % 4096 != 0) = false := by simp [h3]
        have t4 : size.tmod 4096 = 0 := by rw [t3]; exact h3
        by_cases h4 : addr.tmod 4096 = 0
        · have g4 : (addr.tmod 4096 != 0) = false := by simp [h4]
          by_cases h5 : 0 ≤ addr
          · have g5 : ¬ addr < 0 := by omega
            have h6 : ¬ addr ≤ 2097152 := fun h6 => h ⟨h1, h2, t4, h4, h5, h6⟩
            have g6 : 2097152 < addr := by omega
            go_enter Try.func20, Try.ntmps20
            go_wp2_with fail
            go_ret
            exact ⟨rfl, rfl⟩
          · have g5 : addr < 0 := by omega
            go_enter Try.func20, Try.ntmps20
            go_wp2_with fail
            go_ret
            exact ⟨rfl, rfl⟩
        · have g4 : (addr.tmod 4096 != 0) = true := by simp [h4]
          go_enter Try.func20, Try.ntmps20
          go_wp2_with fail
          go_ret
          exact ⟨rfl, rfl⟩
      · have g3 : (size % 4096 != 0) = true := by simp [h3]
        go_enter Try.func20, Try.ntmps20
        go_wp2_with fail
        go_ret
        exact ⟨rfl, rfl⟩
    · have g2 : 2031616 < size := by omega
      go_enter Try.func20, Try.ntmps20
      go_wp2_with fail
      go_ret
      exact ⟨rfl, rfl⟩
  · have g1 : size < 1 := by omega
    go_enter Try.func20, Try.ntmps20
    go_wp2_with fail
    go_ret
    exact ⟨rfl, rfl⟩
set_option maxHeartbeats 2000000 in
theorem refFits_yes (X : List Ar) (hX : RightL X) (A : Option Addr) (c : Nat) (addr size : Int) (h : Asked addr size) {r : Bool} (hr : Tells r (FitsAt X addr size)) (w : World) (hA : Areas w.heap.size w A X) :
    Calls Try.prog 20 #[.slice A X.length c, .int .i64 addr, .int .i64 size] w fun e w' => e = .returned (.bool r) ∧ Below w.heap.size w w' := by
  obtain ⟨h1, h2, h3, h4, h5, h6⟩ := h
  rw [tmod_up (by omega)] at h3 h4
  obtain ⟨m, hm⟩ : ∃ m : Nat, addr = 4096 * (m : Int) := ⟨(addr / 4096).toNat, by omega⟩
  obtain ⟨k, hk⟩ : ∃ k : Nat, size = 4096 * (k : Int) := ⟨(size / 4096).toNat, by omega⟩
  have CO := Lib.hid (ofL_any X hX A c w hA)
  have CF := Lib.hid (free_any (spK X X.length) m k (by omega) (by omega) (r := r) ⟨fun e => (free_fits hX m k).2 (by rw [← hm, ← hk]; exact hr.1 e), fun e => hr.2 (by rw [hm, hk]; exact (free_fits hX m k).1 e)⟩)
  have q0 : addr.tdiv 4096 = (m : Int) := by rw [tdiv_up (by omega)]; omega
  have q1 : size.tdiv 4096 = (k : Int) := by rw [tdiv_up (by omega)]; omega
  have p0 : addr / 4096 = (m : Int) := by omega
  have p1 : size / 4096 = (k : Int) := by omega
  have t3 : size.tmod 4096 = 0 := by rw [tmod_up (by omega)]; exact h3
  have t4 : addr.tmod 4096 = 0 := by rw [tmod_up (by omega)]; exact h4
  have g1 : ¬ size < 1 := by omega
  have g2 : ¬ 2031616 < size := by omega
  have g5 : ¬ addr < 0 := by omega
  have g6 : ¬ 2097152 < addr := by omega
  clear hr hA hX hm hk
  generalize spK X X.length = s at *
  generalize X.length = n at *
  go_enter Try.func20, Try.ntmps20
  go_wp2_with fail
  refine CO.out.mono ?_
  rintro e w1 ⟨rfl, hb⟩
  have B := Lib.hid hb
  clear hb CO
  go_wp2_with fail
  refine (CF.out _).mono ?_
  rintro e w2 ⟨rfl, hb⟩
  have B := Lib.hid (below_then B.out hb (Nat.le_refl _))
  clear hb CF
  go_wp2_with fail
  go_ret
  exact ⟨rfl, B.out⟩
open Classical in
theorem refFits_c {w : World} {v : Value} {X : List Ar} (h : Holds w v X) (hX : RightL X) (addr size : Int) : Calls Try.prog 20 #[v, .int .i64 addr, .int .i64 size] w fun e w' => e = .returned (.bool (decide (FitsAt X addr size))) ∧ Below w.heap.size w w' := by
  obtain ⟨A, c, rfl, hc, hA⟩ := h
  by_cases ha : Asked addr size
  · exact refFits_yes X hX A c addr size ha (tells_it _) w hA
  · refine (refFits_no A X.length c addr size ha w).mono fun e w' ⟨he, hw⟩ => ⟨?_, by subst hw; exact Below.refl _ _⟩
    rw [he, decide_eq_false]
    intro hf
    have hn := fits_num hf
    exact ha ⟨by omega, by omega, by rw [tmod_up (by omega)]; omega, by rw [tmod_up (by omega)]; omega, by omega, by omega⟩

set_option maxHeartbeats 2000000 in
theorem gfits_many (A : Option Addr) (n c : Nat) (addr size : Int) (w : World) (hn : 20 < n) :
    Calls Try.prog 6 #[.slice A n c, .int .i64 addr, .int .i64 size] w fun e w' => e = .returned (.bool true) ∧ Below w.heap.size w w' := by
  have W0 := Lib.hid gap_awake
  have hz : (20 : Int) < (n : Int) := by omega
  go_enter Try.func6, Try.ntmps6
  go_wp2_with fail
  refine (W0.out _).mono ?_
  rintro e w1 ⟨rfl, hb1⟩
  have B1 := Lib.hid hb1
  clear hb1
  go_wp2_with fail
  refine (W0.out _).mono ?_
  rintro e w2 ⟨rfl, hb2⟩
  have B2 := Lib.hid (below_then B1.out hb2 (Nat.le_refl _))
  clear hb2
  go_wp2_with fail
  go_ret
  exact ⟨rfl, B2.out⟩
open Classical in
set_option maxHeartbeats 4000000 in
theorem gfits_few (l : List Ar) (v : Value) (addr size : Int) (w : World) (hl : l.length ≤ 20) (hA : Holds w v l) :
    Calls Try.prog 6 #[v, .int .i64 addr, .int .i64 size] w fun e w' => e = .returned (.bool true) ∧ Below w.heap.size w w' := by
  have W0 := Lib.hid gap_awake
  have KL := Lib.hid hA
  have CM : Hid (∀ w' u, Holds w' u l → Calls Try.prog 11 #[u] w' fun e w'' => ∃ v', e = .returned v' ∧ Holds w'' v' (madeL l) ∧ Below w'.heap.size w' w'') := Lib.hid (fun w' u h => made_c h (by omega))
  have hX := madeL_right l
  have hXl : (madeL l).length ≤ 10000 := by have := right_len hX; omega
  generalize madeL l = X at *
  obtain ⟨r, C1, C2⟩ : ∃ r : Bool, Hid (∀ w' u, Holds w' u X → Calls Try.prog 18 #[u, .int .i64 addr, .int .i64 size] w' fun e w'' => e = .returned (.bool r) ∧ Below w'.heap.size w' w'') ∧ Hid (∀ w' u, Holds w' u X → Calls Try.prog 20 #[u, .int .i64 addr, .int .i64 size] w' fun e w'' => e = .returned (.bool r) ∧ Below w'.heap.size w' w'') := by
    refine ⟨decide (FitsAt X addr size), Lib.hid (fun w' u h => ?_), Lib.hid (fun w' u h => refFits_c h hX addr size)⟩
    by_cases hf : FitsAt X addr size
    · rw [decide_eq_true hf]; exact fits_yes h hXl hf
    · rw [decide_eq_false hf]; exact fits_no h hXl hf
  obtain ⟨A, c, rfl⟩ := hA.is
  clear hA hX hXl
  generalize l.length = n at *
  cases r
  all_goals (
    go_enter Try.func6, Try.ntmps6
    go_wp2_with fail
    refine (W0.out _).mono ?_
    rintro e w1 ⟨rfl, hb⟩
    have B := Lib.hid hb
    have K1 := Lib.hid (KL.out.still hb)
    clear hb KL
    go_wp2_with fail
    refine (CM.out _ _ K1.out).mono ?_
    rintro e w2 ⟨vx, rfl, hX, hb⟩
    have B := Lib.hid (below_then B.out hb (Nat.le_refl _))
    have KX := Lib.hid hX
    clear hb hX K1 CM
    go_wp2_with fail
    refine (C1.out _ _ KX.out).mono ?_
    rintro e w3 ⟨rfl, hb⟩
    have B := Lib.hid (below_then B.out hb (Nat.le_refl _))
    have KX := Lib.hid (KX.out.still hb)
    clear hb C1
    go_wp2_with fail
    refine (C2.out _ _ KX.out).mono ?_
    rintro e w4 ⟨rfl, hb⟩
    have B := Lib.hid (below_then B.out hb (Nat.le_refl _))
    clear hb C2
    go_wp2_with fail
    go_ret
    exact ⟨rfl, B.out⟩)
theorem gfits_any (l : List Ar) (v : Value) (addr size : Int) (w : World) (hA : Holds w v l) :
    Calls Try.prog 6 #[v, .int .i64 addr, .int .i64 size] w fun e w' => e = .returned (.bool true) ∧ Below w.heap.size w w' := by
  by_cases hn : l.length ≤ 20
  · exact gfits_few l v addr size w hn hA
  · obtain ⟨A, c, rfl⟩ := hA.is
    exact gfits_many A l.length c addr size w (by omega)
end Go.Proofs.Ytmppodobgkhojaa
