/-
  Texts of our own, one behind the other (GapLaw, GapOf, GapRef, GapFitsWalk, GapChoose): what the laws' proofs rest on; each says at its head what it holds. No conditions.
-/
import Derived.Test.YtholpgcghpikgaaGreatPkG
import Derived.Test.YtholpgcghpikgaaGreatPkLc
import Derived.Test.YtholpgcghpikgaaGreatPkB
/-
  Layer 8: what the laws ask: a contract for each call, and what a program that does nothing does not answer.
-/
namespace Go.Proofs.YtholpgcghpikgaaGreat
open Go.ChangeShapes Go.WideShapes Go.ChangeAt Go.RowKit Go.Shelf
set_option linter.unusedVariables false
attribute [local go_sem ↓] Go.wp_at_zero Go.wp_at_succ

theorem gaps_none : gapsL [] = [⟨65536, 2097152⟩] := by
  unfold gapsL
  rw [if_pos (show RightL [] from trivial)]
  simp [gapsFrom]
theorem high_none_all : highOf 4096 (roomsL 0 2097152 4096 []) = (2093056, true) := by
  have hg : GoodG ⟨65536, 2097152⟩ := ⟨by simp, by simp, by simp, by simp, by simp⟩
  rcases high_is [] 0 2097152 4096 with ⟨h1, h2⟩ | ⟨a, h1, h2, h3⟩
  · exact absurd ⟨⟨by omega, by omega, by omega, _, by rw [gaps_none]; exact List.mem_singleton.2 rfl, by simp, by simp⟩, by omega, by omega⟩ (h2 65536)
  · obtain ⟨⟨e1, _, _, g, hg, e2, e3⟩, e4, e5⟩ := h2
    have := h3 2093056 ⟨⟨by omega, by omega, by omega, _, by rw [gaps_none]; exact List.mem_singleton.2 rfl, by simp, by simp⟩, by omega, by omega⟩
    rw [h1]
    congr 1
    omega

end Go.Proofs.YtholpgcghpikgaaGreat

/-
  Layer 8: the pages of a right list, and its gaps.
-/
namespace Go.Proofs.YtholpgcghpikgaaGreat
open Go.ChangeShapes Go.WideShapes Go.ChangeAt Go.RowKit Go.Shelf
set_option linter.unusedVariables false
attribute [local go_sem ↓] Go.wp_at_zero Go.wp_at_succ

/-- The pages of a right list. -/
theorem spK_free {l : List Ar} (p : Nat) (h1 : 16 ≤ p) (h2 : p < 512) : spK l l.length p = none ↔ FreeP l p := by
  unfold spK FreeP
  rw [List.take_length]
  constructor
  · intro h; exact ⟨by omega, by omega, h⟩
  · intro h; exact h.2.2
end Go.Proofs.YtholpgcghpikgaaGreat

/-
  Layer 8: the reference: whether pages are free, whether there is room: a contract for each call.
-/
namespace Go.Proofs.YtholpgcghpikgaaGreat
open Go.ChangeShapes Go.WideShapes Go.ChangeAt Go.RowKit Go.Shelf
set_option linter.unusedVariables false
attribute [local go_sem ↓] Go.wp_at_zero Go.wp_at_succ

/-- So many pages are free, from one on. -/
def FreeN (s : Sp) (m k : Nat) : Prop := 16 ≤ m ∧ 1 ≤ k ∧ m + k ≤ 512 ∧ ∀ p, m ≤ p → p < m + k → s p = none
set_option maxRecDepth 100000 in
set_option maxHeartbeats 4000000 in
theorem free_any (s : Sp) (m k : Nat) (hm : m ≤ 512) (hk : k ≤ 496) {r : Bool} (hr : Tells r (FreeN s m k)) (w : World) :
    Calls Tryz.prog 68 #[.agg (spc s), .int .i64 m, .int .i64 k] w fun e w' => e = .returned (.bool r) ∧ Below w.heap.size w w' := by
  have S0 : Hid (SpIn (w.alloc (.cells (spc s) 97)) w.heap.size s) := Lib.hid (Whole.new _ _ _)
  have B0 := Lib.hid (below_new w (.cells (spc s) 97))
  have HR := Lib.hid hr
  clear hr
  have hk2 : ¬ (496 : Int) < (k : Int) := by omega
  by_cases h1 : 16 ≤ m
  · have g1 : ¬ (m : Int) < 16 := by omega
    by_cases h2 : 1 ≤ k
    · have g2 : ¬ (k : Int) < 1 := by omega
      by_cases h3 : m + k ≤ 512
      · have g3 : ¬ (512 : Int) < (m : Int) + (k : Int) := by omega
        go_enter Tryz.func68, Tryz.ntmps68
        go_wp2_with fail
        generalize w.alloc _ = W0 at *
        go_loopg [7] k (fun g s5 wr => ∃ n : Nat, m ≤ n ∧ n ≤ m + k ∧ m + k - n ≤ g ∧ s5 = .int .i64 n ∧ wr = W0 ∧ Hid (∀ p, m ≤ p → p < n → s p = none))
        case atStart => exact ⟨m, by omega, by omega, by omega, rfl, rfl, Lib.hid (fun p h1 h2 => by omega)⟩
        case round =>
          obtain ⟨n, hn0, hn1, hgn, rfl, rfl, HN⟩ := hrel
          by_cases hlt : n < m + k
          · have hz1 : (n : Int) < 512 := by omega
            have hz0 : (0 : Int) ≤ (n : Int) := by omega
            have hz2 : (n : Int) < (m : Int) + (k : Int) := by omega
            cases hs : s n with
            | none =>
              obtain ⟨⟨d0, d1, d2, d3, d4⟩, fz⟩ := S0.out.five (by omega) hs
              have HN2 : Hid (∀ p, m ≤ p → p < n + 1 → s p = none) := Lib.hid (fun p h1 h2 => by
                rcases Nat.lt_or_ge p n with h | h
                · exact HN.out p h1 h
                · obtain rfl : p = n := by omega
                  exact hs)
              clear hs
              go_wp2_with fail
              go_roundg (m + k - (n + 1))
              case measure => omega
              case rel => exact ⟨n + 1, by omega, by omega, by omega, by go_num, rfl, HN2⟩
            | some x =>
              obtain ⟨d0, d1, d2, d3, d4⟩ := S0.out.some (by omega) hs
              have hf : r = false := HR.out.no (fun h => by have := h.2.2.2 n hn0 hlt; rw [hs] at this; cases this)
              subst hf
              clear hs
              go_wp2_with fail
              go_ret
              exact ⟨rfl, B0.out⟩
          · obtain rfl : n = m + k := by omega
            have hf : r = true := HR.out.yes ⟨h1, h2, h3, HN.out⟩
            subst hf
            have hz2 : ¬ ((m + k : Nat) : Int) < (m : Int) + (k : Int) := by omega
            go_wp2_with fail
            go_ret
            exact ⟨rfl, B0.out⟩
      · have g3 : (512 : Int) < (m : Int) + (k : Int) := by omega
        have hf : r = false := HR.out.no (fun h => h3 h.2.2.1)
        subst hf
        go_enter Tryz.func68, Tryz.ntmps68
        go_wp2_with fail
        go_ret
        exact ⟨rfl, B0.out⟩
    · have g2 : (k : Int) < 1 := by omega
      have hf : r = false := HR.out.no (fun h => h2 h.2.1)
      subst hf
      go_enter Tryz.func68, Tryz.ntmps68
      go_wp2_with fail
      go_ret
      exact ⟨rfl, B0.out⟩
  · have g1 : (m : Int) < 16 := by omega
    have hf : r = false := HR.out.no (fun h => h1 h.1)
    subst hf
    go_enter Tryz.func68, Tryz.ntmps68
    go_wp2_with fail
    go_ret
    exact ⟨rfl, B0.out⟩

/-- Free pages are room. -/
theorem free_fits {X : List Ar} (hX : RightL X) (m k : Nat) : FreeN (spK X X.length) m k ↔ FitsAt X (4096 * (m : Int)) (4096 * (k : Int)) := by
  rw [fits_pages hX]
  unfold FreeN
  constructor
  · rintro ⟨h1, h2, h3, h4⟩
    refine ⟨by omega, by omega, by omega, fun p hp hq => ?_⟩
    have := (spK_free (l := X) p.toNat (by omega) (by omega)).1 (h4 p.toNat (by omega) (by omega))
    rwa [Int.toNat_of_nonneg (by omega)] at this
  · rintro ⟨h1, h2, h3, h4⟩
    have a1 := h4 m (by omega) (by omega)
    have a2 := h4 ((m : Int) + k - 1) (by omega) (by omega)
    have b1 := a1.1
    have b2 := a2.2.1
    refine ⟨by omega, by omega, by omega, fun p hp hq => (spK_free (l := X) p (by omega) (by omega)).2 (h4 p (by omega) (by omega))⟩
end Go.Proofs.YtholpgcghpikgaaGreat

/-
  Layer 8: of all addresses and sizes it is told whether there is room.
-/
namespace Go.Proofs.YtholpgcghpikgaaGreat
open Go.ChangeShapes Go.WideShapes Go.ChangeAt Go.RowKit Go.Shelf
set_option linter.unusedVariables false
attribute [local go_sem ↓] Go.wp_at_zero Go.wp_at_succ

theorem fits_num {X : List Ar} {addr size : Int} (h : FitsAt X addr size) : 65536 ≤ addr ∧ addr ≤ 2097152 ∧ addr % 4096 = 0 ∧ 1 ≤ size ∧ size ≤ 2031616 ∧ size % 4096 = 0 := by
  obtain ⟨h1, h2, h3, g, hg, h4, h5⟩ := h
  have := (gapsL_good g hg).lo; have := (gapsL_good g hg).hi
  omega
/-- What the tests ahead let by. -/
structure Asked (addr size : Int) : Prop where
  s1 : 1 ≤ size
  s2 : size ≤ 2031616
  s3 : size.tmod 4096 = 0
  a1 : addr.tmod 4096 = 0
  a2 : 0 ≤ addr
  a3 : addr ≤ 2097152
set_option maxHeartbeats 2000000 in
theorem refFits_no (A : Option Addr) (n c : Nat) (addr size : Int) (h : ¬ Asked addr size) (w : World) :
    Calls Tryz.prog 100 #[.slice A n c, .int .i64 addr, .int .i64 size] w fun e w' => e = .returned (.bool false) ∧ w' = w := by
  by_cases h1 : 1 ≤ size
  · have g1 : ¬ size < 1 := by omega
    by_cases h2 : size ≤ 2031616
    · have g2 : ¬ 2031616 < size := by omega
      have t3 : size.tmod 4096 = size % 4096 := tmod_up (by omega)
      by_cases h3 : size % 4096 = 0
      · have g3 : (size % 4096 != 0) = false := by simp [h3]
        have t4 : size.tmod 4096 = 0 := by rw [t3]; exact h3
        by_cases h4 : addr.tmod 4096 = 0
        · have g4 : (addr.tmod 4096 != 0) = false := by simp [h4]
          by_cases h5 : 0 ≤ addr
          · have g5 : ¬ addr < 0 := by omega
            have h6 : ¬ addr ≤ 2097152 := fun h6 => h ⟨h1, h2, t4, h4, h5, h6⟩
            have g6 : 2097152 < addr := by omega
            go_enter Tryz.func100, Tryz.ntmps100
            go_wp2_with fail
            go_ret
            exact ⟨rfl, rfl⟩
          · have g5 : addr < 0 := by omega
            go_enter Tryz.func100, Tryz.ntmps100
            go_wp2_with fail
            go_ret
            exact ⟨rfl, rfl⟩
        · have g4 : (addr.tmod 4096 != 0) = true := by simp [h4]
          go_enter Tryz.func100, Tryz.ntmps100
          go_wp2_with fail
          go_ret
          exact ⟨rfl, rfl⟩
      · have g3 : (size % 4096 != 0) = true := by simp [h3]
        go_enter Tryz.func100, Tryz.ntmps100
        go_wp2_with fail
        go_ret
        exact ⟨rfl, rfl⟩
    · have g2 : 2031616 < size := by omega
      go_enter Tryz.func100, Tryz.ntmps100
      go_wp2_with fail
      go_ret
      exact ⟨rfl, rfl⟩
  · have g1 : size < 1 := by omega
    go_enter Tryz.func100, Tryz.ntmps100
    go_wp2_with fail
    go_ret
    exact ⟨rfl, rfl⟩
set_option maxHeartbeats 2000000 in
theorem refFits_yes (X : List Ar) (hX : RightL X) (A : Option Addr) (c : Nat) (addr size : Int) (h : Asked addr size) {r : Bool} (hr : Tells r (FitsAt X addr size)) (w : World) (hA : Areas w.heap.size w A X) :
    Calls Tryz.prog 100 #[.slice A X.length c, .int .i64 addr, .int .i64 size] w fun e w' => e = .returned (.bool r) ∧ Below w.heap.size w w' := by
  obtain ⟨h1, h2, h3, h4, h5, h6⟩ := h
  rw [tmod_up (by omega)] at h3 h4
  obtain ⟨m, hm⟩ : ∃ m : Nat, addr = 4096 * (m : Int) := ⟨(addr / 4096).toNat, by omega⟩
  obtain ⟨k, hk⟩ : ∃ k : Nat, size = 4096 * (k : Int) := ⟨(size / 4096).toNat, by omega⟩
  have CO := Lib.hid (ofL_any X hX A c w hA)
  have CF := Lib.hid (free_any (spK X X.length) m k (by omega) (by omega) (r := r) ⟨fun e => (free_fits hX m k).2 (by rw [← hm, ← hk]; exact hr.1 e), fun e => hr.2 (by rw [hm, hk]; exact (free_fits hX m k).1 e)⟩)
  have q0 : addr.tdiv 4096 = (m : Int) := by rw [tdiv_up (by omega)]; omega
  have q1 : size.tdiv 4096 = (k : Int) := by rw [tdiv_up (by omega)]; omega
  have p0 : addr / 4096 = (m : Int) := by omega
  have p1 : size / 4096 = (k : Int) := by omega
  have t3 : size.tmod 4096 = 0 := by rw [tmod_up (by omega)]; exact h3
  have t4 : addr.tmod 4096 = 0 := by rw [tmod_up (by omega)]; exact h4
  have g1 : ¬ size < 1 := by omega
  have g2 : ¬ 2031616 < size := by omega
  have g5 : ¬ addr < 0 := by omega
  have g6 : ¬ 2097152 < addr := by omega
  clear hr hA hX hm hk
  generalize spK X X.length = s at *
  generalize X.length = n at *
  go_enter Tryz.func100, Tryz.ntmps100
  go_wp2_with fail
  refine CO.out.mono ?_
  rintro e w1 ⟨rfl, hb⟩
  have B := Lib.hid hb
  clear hb CO
  go_wp2_with fail
  refine (CF.out _).mono ?_
  rintro e w2 ⟨rfl, hb⟩
  have B := Lib.hid (below_then B.out hb (Nat.le_refl _))
  clear hb CF
  go_wp2_with fail
  go_ret
  exact ⟨rfl, B.out⟩
open Classical in
theorem refFits_c {w : World} {v : Value} {X : List Ar} (h : Holds w v X) (hX : RightL X) (addr size : Int) : Calls Tryz.prog 100 #[v, .int .i64 addr, .int .i64 size] w fun e w' => e = .returned (.bool (decide (FitsAt X addr size))) ∧ Below w.heap.size w w' := by
  obtain ⟨A, c, rfl, hc, hA⟩ := h
  by_cases ha : Asked addr size
  · exact refFits_yes X hX A c addr size ha (tells_it _) w hA
  · refine (refFits_no A X.length c addr size ha w).mono fun e w' ⟨he, hw⟩ => ⟨?_, by subst hw; exact Below.refl _ _⟩
    rw [he, decide_eq_false]
    intro hf
    have hn := fits_num hf
    exact ha ⟨by omega, by omega, by rw [tmod_up (by omega)]; omega, by rw [tmod_up (by omega)]; omega, by omega, by omega⟩

end Go.Proofs.YtholpgcghpikgaaGreat

/-
  Layer 8: the reference: the least, or the greatest, address with room: a contract.
-/
namespace Go.Proofs.YtholpgcghpikgaaGreat
open Go.ChangeShapes Go.WideShapes Go.ChangeAt Go.RowKit Go.Shelf
set_option linter.unusedVariables false
attribute [local go_sem ↓] Go.wp_at_zero Go.wp_at_succ

/-- The best page ahead of one, as an address; none: -1. -/
def BestTo (P : Nat → Prop) (gr : Bool) (n : Nat) (b : Int) : Prop :=
  (b = -1 ∧ ∀ p, 16 ≤ p → p < n → ¬ P p) ∨ (∃ m : Nat, 16 ≤ m ∧ m < n ∧ P m ∧ b = 4096 * (m : Int) ∧ ∀ q, 16 ≤ q → q < n → P q → if gr then q ≤ m else m ≤ q)
theorem BestTo.skip {P : Nat → Prop} {gr : Bool} {n : Nat} {b : Int} (h : BestTo P gr n b) (hn : ¬ P n) : BestTo P gr (n + 1) b := by
  have hs : ∀ q, q < n + 1 → P q → q < n := fun q hq hP => by
    rcases Nat.lt_or_ge q n with h | h
    · exact h
    · obtain rfl : q = n := by omega
      exact absurd hP hn
  rcases h with ⟨h1, h2⟩ | ⟨m, h1, h2, h3, h4, h5⟩
  · exact .inl ⟨h1, fun p hp hq hP => h2 p hp (hs p hq hP) hP⟩
  · exact .inr ⟨m, h1, by omega, h3, h4, fun q h6 h7 h8 => h5 q h6 (hs q h7 h8) h8⟩
theorem BestTo.take {P : Nat → Prop} {gr : Bool} {n : Nat} {b : Int} (h : BestTo P gr n b) (h16 : 16 ≤ n) (hn : P n) (hb : b < 0 ∨ gr = true) : BestTo P gr (n + 1) (4096 * (n : Int)) := by
  refine .inr ⟨n, h16, by omega, hn, rfl, fun q h6 h7 h8 => ?_⟩
  rcases h with ⟨h1, h2⟩ | ⟨m, h1, h2, h3, h4, h5⟩
  · have : q = n := by
      rcases Nat.lt_or_ge q n with h | h
      · exact absurd h8 (h2 q h6 h)
      · omega
    subst this; cases gr <;> simp
  · rcases hb with hb | rfl
    · omega
    · simp; omega
theorem BestTo.keep {P : Nat → Prop} {n : Nat} {b : Int} (h : BestTo P false n b) (hb : ¬ b < 0) : BestTo P false (n + 1) b := by
  rcases h with ⟨h1, h2⟩ | ⟨m, h1, h2, h3, h4, h5⟩
  · omega
  · refine .inr ⟨m, h1, by omega, h3, h4, fun q h6 h7 h8 => ?_⟩
    rcases Nat.lt_or_ge q n with h | h
    · exact h5 q h6 h h8
    · simp; omega
theorem BestTo.num {P : Nat → Prop} {gr : Bool} {n : Nat} {b : Int} (h : BestTo P gr n b) (hn : n ≤ 512) : -1 ≤ b ∧ b ≤ 2097152 := by
  rcases h with ⟨h1, h2⟩ | ⟨m, h1, h2, h3, h4, h5⟩ <;> omega

/-- The best address with room within bounds; none: -1. -/
def Best (X : List Ar) (lo hi size : Int) (gr : Bool) (b : Int) : Prop :=
  (b = -1 ∧ ∀ a, ¬ May X lo hi size a) ∨ (May X lo hi size b ∧ ∀ a, May X lo hi size a → if gr then a ≤ b else b ≤ a)
theorem may_num {X : List Ar} {lo hi size a : Int} (h : May X lo hi size a) : 65536 ≤ a ∧ a < 2097152 ∧ a % 4096 = 0 := by
  obtain ⟨⟨h1, h2, h3, g, hg, h4, h5⟩, h6, h7⟩ := h
  have := (gapsL_good g hg).lo; have := (gapsL_good g hg).hi
  omega
theorem Best.one {X : List Ar} {lo hi size : Int} {gr : Bool} {b c : Int} (h : Best X lo hi size gr b) (k : Best X lo hi size gr c) : b = c := by
  rcases h with ⟨h1, h2⟩ | ⟨h1, h2⟩
  · rcases k with ⟨k1, k2⟩ | ⟨k1, k2⟩
    · omega
    · exact absurd k1 (h2 _)
  · rcases k with ⟨k1, k2⟩ | ⟨k1, k2⟩
    · exact absurd h1 (k2 _)
    · have a1 := h2 _ k1
      have a2 := k2 _ h1
      cases gr <;> simp at a1 a2 <;> omega
/-- Page by page, and by addresses. -/
theorem best_to {X : List Ar} (hX : RightL X) {lo hi : Int} {k : Nat} {gr : Bool} {b : Int}
    (h : BestTo (fun p => lo ≤ 4096 * (p : Int) ∧ 4096 * (p : Int) + 4096 * (k : Int) ≤ hi ∧ FreeN (spK X X.length) p k) gr 512 b) : Best X lo hi (4096 * (k : Int)) gr b := by
  have hm : ∀ a, May X lo hi (4096 * (k : Int)) a → ∃ p : Nat, 16 ≤ p ∧ p < 512 ∧ a = 4096 * (p : Int) ∧ lo ≤ 4096 * (p : Int) ∧ 4096 * (p : Int) + 4096 * (k : Int) ≤ hi ∧ FreeN (spK X X.length) p k := fun a ha => by
    have hn := may_num ha
    obtain ⟨p, hp⟩ : ∃ p : Nat, a = 4096 * (p : Int) := ⟨(a / 4096).toNat, by omega⟩
    subst hp
    exact ⟨p, by omega, by omega, rfl, ha.2.1, ha.2.2, (free_fits hX p k).2 ha.1⟩
  rcases h with ⟨h1, h2⟩ | ⟨m, h1, h2, h3, h4, h5⟩
  · refine .inl ⟨h1, fun a ha => ?_⟩
    obtain ⟨p, e1, e2, e3, e4⟩ := hm a ha
    exact h2 p e1 e2 e4
  · refine .inr ⟨?_, fun a ha => ?_⟩
    · rw [h4]; exact ⟨(free_fits hX m k).1 h3.2.2, h3.1, h3.2.1⟩
    · obtain ⟨p, e1, e2, e3, e4⟩ := hm a ha
      have := h5 p e1 e2 e4
      cases gr <;> simp at this ⊢ <;> omega

set_option maxRecDepth 100000 in
set_option maxHeartbeats 8000000 in
theorem choose_walk (X : List Ar) (hX : RightL X) (A : Option Addr) (c : Nat) (lo hi : Int) (k : Nat) (hk1 : 1 ≤ k) (hk2 : k ≤ 496) (gr : Bool) (w : World) (hA : Areas w.heap.size w A X) :
    Calls Tryz.prog 69 #[.slice A X.length c, .int .i64 lo, .int .i64 hi, .int .i64 (4096 * (k : Int)), .bool gr] w fun e w' => ∃ b : Int, e = .returned (.int .i64 b) ∧ BestTo (fun p => lo ≤ 4096 * (p : Int) ∧ 4096 * (p : Int) + 4096 * (k : Int) ≤ hi ∧ FreeN (spK X X.length) p k) gr 512 b ∧ Below w.heap.size w w' := by
  have CO := Lib.hid (ofL_any X hX A c w hA)
  clear hA hX
  generalize spK X X.length = s at *
  generalize X.length = n at *
  have CF := Lib.hid (fun (m : Nat) (hm : m ≤ 512) (r : Bool) (hr : Tells r (FreeN s m k)) (w' : World) => free_any s m k hm hk2 hr w')
  have q1 : (4096 * (k : Int)).tdiv 4096 = (k : Int) := by rw [tdiv_up (by omega)]; omega
  have p1 : (4096 * (k : Int)) / 4096 = (k : Int) := by omega
  have t3 : (4096 * (k : Int)).tmod 4096 = 0 := by rw [tmod_up (by omega)]; omega
  have t4 : (4096 * (k : Int)) % 4096 = 0 := by omega
  have g1 : ¬ (4096 * (k : Int)) < 1 := by omega
  have g2 : ¬ 2031616 < (4096 * (k : Int)) := by omega
  have hsz : 4096 * (k : Int) ≤ 2031616 := by omega
  have hsz0 : 1 ≤ 4096 * (k : Int) := by omega
  obtain ⟨P, hP⟩ : ∃ P : Nat → Prop, P = (fun p : Nat => lo ≤ 4096 * (p : Int) ∧ 4096 * (p : Int) + 4096 * (k : Int) ≤ hi ∧ FreeN s p k) := ⟨_, rfl⟩
  rw [← hP]
  have HP : Hid (∀ p : Nat, P p ↔ (lo ≤ 4096 * (p : Int) ∧ 4096 * (p : Int) + 4096 * (k : Int) ≤ hi ∧ FreeN s p k)) := Lib.hid (fun p => by rw [hP])
  clear hP
  have HS : Hid (BestTo P gr 16 (-1)) := Lib.hid (.inl ⟨rfl, fun p h1 h2 => by omega⟩)
  generalize hs4 : 4096 * (k : Int) = size at *
  go_enter Tryz.func69, Tryz.ntmps69
  go_wp2_with fail
  refine CO.out.mono ?_
  rintro e w1 ⟨rfl, hb⟩
  have HC := Lib.hid (ChAt.new hb s)
  have TH : Hid ((w1.alloc (.cells Tryz.zeroCells97 97)).there w1.heap.size 0 (spl s 512).toArray.size) := Lib.hid (SpIn.there (s := fun _ => none) (by rw [zero_spc]; exact Whole.new _ _ _))
  clear hb CO
  go_wp2_with (refine wpList_store_mid rfl 97 (.tmp 11) (.tmp 15) (by rfl) w1.heap.size 0 (spl s 512).toArray (by rfl) (by rfl) TH.out (space_size' _) (spl_one _ _) ?_)
  generalize hq : w1.heap.size = q at *
  clear hq TH
  generalize World.setCells _ _ _ _ = W1 at *
  go_loopg [12, 13] 496 (fun g s12 s13 wr => ∃ (n : Nat) (b : Int), 16 ≤ n ∧ n ≤ 512 ∧ 512 - n ≤ g ∧ s12 = .int .i64 b ∧ s13 = .int .i64 n ∧ Hid (BestTo P gr n b) ∧ Hid (ChAt w wr q s))
  case atStart => exact ⟨16, -1, by omega, by omega, by omega, rfl, rfl, HS, HC⟩
  case round =>
    obtain ⟨n, b, hn0, hn1, hgn, rfl, rfl, HB, HC⟩ := hrel
    by_cases hlt : n < 512
    · have hz1 : (n : Int) < 512 := by omega
      have hz0 : (0 : Int) ≤ (n : Int) := by omega
      by_cases h1 : lo ≤ 4096 * (n : Int)
      · by_cases h2 : 4096 * (n : Int) + size ≤ hi
        · obtain ⟨r, HF, HR⟩ : ∃ r : Bool, Hid (∀ w', Calls Tryz.prog 68 #[.agg (spl s 512).toArray, .int .i64 n, .int .i64 k] w' fun e w'' => e = .returned (.bool r) ∧ Below w'.heap.size w' w'') ∧ Hid (r = true ↔ P n) := by
            by_cases h3 : FreeN s n k
            · exact ⟨true, Lib.hid (fun w' => CF.out n (by omega) true ⟨fun _ => h3, fun _ => rfl⟩ w'), Lib.hid ⟨fun _ => (HP.out n).2 ⟨h1, h2, h3⟩, fun _ => rfl⟩⟩
            · exact ⟨false, Lib.hid (fun w' => CF.out n (by omega) false ⟨fun h => (by cases h), fun h => absurd h h3⟩ w'), Lib.hid ⟨fun h => (by cases h), fun h => absurd ((HP.out n).1 h).2.2 h3⟩⟩
          clear CF HP
          go_wp2_with fail
          rename_i hkk
          refine wp_load_mid 97 (.tmp 11) (by rfl) q 0 (by rfl) (spl s 512) _ HC.out.s.range Tryz.underlying97 rfl (space_size _) ?_
          refine hkk _ _ ?_
          clear hkk
          go_wp2_with fail
          refine (HF.out _).mono ?_
          rintro e w2 ⟨rfl, hb⟩
          have HC2 := Lib.hid (HC.out.still hb)
          clear hb HF HC
          cases r with
          | false =>
            have HB2 := Lib.hid (HB.out.skip (fun h => by have := HR.out.2 h; cases this))
            clear HB HR
            go_wp2_with fail
            go_roundg (512 - (n + 1))
            case measure => omega
            case rel => exact ⟨n + 1, b, by omega, by omega, by omega, rfl, by go_num, HB2, HC2⟩
          | true =>
            have hPn := HR.out.1 rfl
            by_cases hb0 : b < 0
            · have HB2 := Lib.hid (HB.out.take hn0 hPn (.inl hb0))
              clear HB HR hPn
              go_wp2_with fail
              go_roundg (512 - (n + 1))
              case measure => omega
              case rel => exact ⟨n + 1, 4096 * (n : Int), by omega, by omega, by omega, by go_num, by go_num, HB2, HC2⟩
            · cases gr with
              | true =>
                have HB2 := Lib.hid (HB.out.take hn0 hPn (.inr rfl))
                clear HB HR hPn
                go_wp2_with fail
                go_roundg (512 - (n + 1))
                case measure => omega
                case rel => exact ⟨n + 1, 4096 * (n : Int), by omega, by omega, by omega, by go_num, by go_num, HB2, HC2⟩
              | false =>
                have HB2 := Lib.hid (HB.out.keep hb0)
                clear HB HR hPn
                go_wp2_with fail
                go_roundg (512 - (n + 1))
                case measure => omega
                case rel => exact ⟨n + 1, b, by omega, by omega, by omega, rfl, by go_num, HB2, HC2⟩
        · have hPn : Hid (¬ P n) := Lib.hid (fun h => h2 ((HP.out n).1 h).2.1)
          go_wp2_with fail
          go_roundg (512 - (n + 1))
          case measure => omega
          case rel => exact ⟨n + 1, b, by omega, by omega, by omega, rfl, by go_num, Lib.hid (HB.out.skip hPn.out), HC⟩
      · have hPn : Hid (¬ P n) := Lib.hid (fun h => h1 ((HP.out n).1 h).1)
        go_wp2_with fail
        go_roundg (512 - (n + 1))
        case measure => omega
        case rel => exact ⟨n + 1, b, by omega, by omega, by omega, rfl, by go_num, Lib.hid (HB.out.skip hPn.out), HC⟩
    · obtain rfl : n = 512 := by omega
      go_wp2_with fail
      go_ret
      exact ⟨b, rfl, HB.out, HC.out.bel⟩

set_option maxRecDepth 100000 in
set_option maxHeartbeats 4000000 in
theorem choose_no (X : List Ar) (hX : RightL X) (A : Option Addr) (c : Nat) (lo hi size : Int) (gr : Bool) (hs : ¬ (1 ≤ size ∧ size ≤ 2031616 ∧ size % 4096 = 0)) (w : World) (hA : Areas w.heap.size w A X) :
    Calls Tryz.prog 69 #[.slice A X.length c, .int .i64 lo, .int .i64 hi, .int .i64 size, .bool gr] w fun e w' => e = .returned (.int .i64 (-1)) ∧ Below w.heap.size w w' := by
  have CO := Lib.hid (ofL_any X hX A c w hA)
  clear hA hX
  generalize spK X X.length = s at *
  generalize X.length = n at *
  have HN := Lib.hid hs
  clear hs
  go_enter Tryz.func69, Tryz.ntmps69
  go_wp2_with fail
  refine CO.out.mono ?_
  rintro e w1 ⟨rfl, hb⟩
  have HC := Lib.hid (ChAt.new hb s)
  have TH : Hid ((w1.alloc (.cells Tryz.zeroCells97 97)).there w1.heap.size 0 (spl s 512).toArray.size) := Lib.hid (SpIn.there (s := fun _ => none) (by rw [zero_spc]; exact Whole.new _ _ _))
  clear hb CO
  by_cases h1 : 1 ≤ size
  · have g1 : ¬ size < 1 := by omega
    by_cases h2 : size ≤ 2031616
    · have g2 : ¬ 2031616 < size := by omega
      have t3 : size.tmod 4096 = size % 4096 := tmod_up (by omega)
      have g3 : (size % 4096 != 0) = true := by simp only [bne_iff_ne, ne_eq]; exact fun h => HN.out ⟨h1, h2, h⟩
      have g4 : size % 4096 ≠ 0 := by simpa using g3
      go_wp2_with (refine wpList_store_mid rfl 97 (.tmp 11) (.tmp 15) (by rfl) w1.heap.size 0 (spl s 512).toArray (by rfl) (by rfl) TH.out (space_size' _) (spl_one _ _) ?_)
      go_ret
      exact ⟨rfl, HC.out.bel⟩
    · have g2 : 2031616 < size := by omega
      go_wp2_with (refine wpList_store_mid rfl 97 (.tmp 11) (.tmp 15) (by rfl) w1.heap.size 0 (spl s 512).toArray (by rfl) (by rfl) TH.out (space_size' _) (spl_one _ _) ?_)
      go_ret
      exact ⟨rfl, HC.out.bel⟩
  · have g1 : size < 1 := by omega
    go_wp2_with (refine wpList_store_mid rfl 97 (.tmp 11) (.tmp 15) (by rfl) w1.heap.size 0 (spl s 512).toArray (by rfl) (by rfl) TH.out (space_size' _) (spl_one _ _) ?_)
    go_ret
    exact ⟨rfl, HC.out.bel⟩

theorem choose_c {w : World} {v : Value} {X : List Ar} (h : Holds w v X) (hX : RightL X) (lo hi size : Int) (gr : Bool) {b : Int} (hb : Best X lo hi size gr b) : Calls Tryz.prog 69 #[v, .int .i64 lo, .int .i64 hi, .int .i64 size, .bool gr] w fun e w' => e = .returned (.int .i64 b) ∧ Below w.heap.size w w' := by
  obtain ⟨A, c, rfl, hc, hA⟩ := h
  by_cases hs : 1 ≤ size ∧ size ≤ 2031616 ∧ size % 4096 = 0
  · obtain ⟨k, hk⟩ : ∃ k : Nat, size = 4096 * (k : Int) := ⟨(size / 4096).toNat, by omega⟩
    subst hk
    refine (choose_walk X hX A c lo hi k (by omega) (by omega) gr w hA).mono fun e w' ⟨b', he, hb', hw⟩ => ⟨?_, hw⟩
    rw [he, hb.one (best_to hX hb')]
  · refine (choose_no X hX A c lo hi size gr hs w hA).mono fun e w' ⟨he, hw⟩ => ⟨?_, hw⟩
    have hno : ∀ a, ¬ May X lo hi size a := fun a ha => by
      have := fits_num ha.1
      exact hs ⟨by omega, by omega, by omega⟩
    rw [he]
    rcases hb with ⟨h1, h2⟩ | ⟨h1, h2⟩
    · rw [h1]
    · exact absurd h1 (hno _)
theorem low_best {X : List Ar} {lo hi size a : Int} (h : May X lo hi size a) (k : ∀ b, May X lo hi size b → a ≤ b) : Best X lo hi size false a := .inr ⟨h, fun b hb => by simpa using k b hb⟩
theorem high_best {X : List Ar} {lo hi size a : Int} (h : May X lo hi size a) (k : ∀ b, May X lo hi size b → b ≤ a) : Best X lo hi size true a := .inr ⟨h, fun b hb => by simpa using k b hb⟩
end Go.Proofs.YtholpgcghpikgaaGreat
