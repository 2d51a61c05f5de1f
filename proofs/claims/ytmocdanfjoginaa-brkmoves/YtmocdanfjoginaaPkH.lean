/-
  Texts of our own, one behind the other (GapLaw, GapOf, GapRef, GapFitsWalk, GapChoose): what the laws' proofs rest on; each says at its head what it holds. No conditions.
-/
import Derived.Test.YtmocdanfjoginaaPkG
import Derived.Test.YtmocdanfjoginaaPkLc
import Derived.Test.YtmocdanfjoginaaPkB
/-
  Layer 8: what the laws ask: a contract for each call, and what a program that does nothing does not answer.
-/
namespace Go.Proofs.Ytmocdanfjoginaa
open Go.ChangeShapes Go.WideShapes Go.ChangeAt Go.RowKit Go.Shelf
set_option linter.unusedVariables false
attribute [local go_sem ↓] Go.wp_at_zero Go.wp_at_succ

theorem gaps_none : gapsL [] = [⟨65536, 2097152⟩] := by
  unfold gapsL
  rw [if_pos (show RightL [] from trivial)]
  simp [gapsFrom]
theorem high_none_all : highOf 4096 (roomsL 0 2097152 4096 []) = (2093056, true) := by
  have hg : GoodG ⟨65536, 2097152⟩ := ⟨by simp, by simp, by simp, by simp, by simp⟩
  rcases high_is [] 0 2097152 4096 with ⟨h1, h2⟩ | ⟨a, h1, h2, h3⟩
  · exact absurd ⟨⟨by omega, by omega, by omega, _, by rw [gaps_none]; exact List.mem_singleton.2 rfl, by simp, by simp⟩, by omega, by omega⟩ (h2 65536)
  · obtain ⟨⟨e1, _, _, g, hg, e2, e3⟩, e4, e5⟩ := h2
    have := h3 2093056 ⟨⟨by omega, by omega, by omega, _, by rw [gaps_none]; exact List.mem_singleton.2 rfl, by simp, by simp⟩, by omega, by omega⟩
    rw [h1]
    congr 1
    omega

end Go.Proofs.Ytmocdanfjoginaa

/-
  Layer 8: the pages of a right list, and its gaps.
-/
namespace Go.Proofs.Ytmocdanfjoginaa
open Go.ChangeShapes Go.WideShapes Go.ChangeAt Go.RowKit Go.Shelf
set_option linter.unusedVariables false
attribute [local go_sem ↓] Go.wp_at_zero Go.wp_at_succ

/-- The pages of a right list. -/
theorem spK_free {l : List Ar} (p : Nat) (h1 : 16 ≤ p) (h2 : p < 512) : spK l l.length p = none ↔ FreeP l p := by
  unfold spK FreeP
  rw [List.take_length]
  constructor
  · intro h; exact ⟨by omega, by omega, h⟩
  · intro h; exact h.2.2
end Go.Proofs.Ytmocdanfjoginaa

/-
  Layer 8: the reference: whether pages are free, whether there is room: a contract for each call.
-/
namespace Go.Proofs.Ytmocdanfjoginaa
open Go.ChangeShapes Go.WideShapes Go.ChangeAt Go.RowKit Go.Shelf
set_option linter.unusedVariables false
attribute [local go_sem ↓] Go.wp_at_zero Go.wp_at_succ

/-- So many pages are free, from one on. -/
def FreeN (s : Sp) (m k : Nat) : Prop := 16 ≤ m ∧ 1 ≤ k ∧ m + k ≤ 512 ∧ ∀ p, m ≤ p → p < m + k → s p = none
set_option maxRecDepth 100000 in
set_option maxHeartbeats 4000000 in
theorem free_any (s : Sp) (m k : Nat) (hm : m ≤ 512) (hk : k ≤ 496) {r : Bool} (hr : Tells r (FreeN s m k)) (w : World) :
    Calls Try.prog 24 #[.agg (spc s), .int .i64 m, .int .i64 k] w fun e w' => e = .returned (.bool r) ∧ Below w.heap.size w w' := by
  have S0 : Hid (SpIn (w.alloc (.cells (spc s) 54)) w.heap.size s) := Lib.hid (Whole.new _ _ _)
  have B0 := Lib.hid (below_new w (.cells (spc s) 54))
  have HR := Lib.hid hr
  clear hr
  have hk2 : ¬ (496 : Int) < (k : Int) := by omega
  by_cases h1 : 16 ≤ m
  · have g1 : ¬ (m : Int) < 16 := by omega
    by_cases h2 : 1 ≤ k
    · have g2 : ¬ (k : Int) < 1 := by omega
      by_cases h3 : m + k ≤ 512
      · have g3 : ¬ (512 : Int) < (m : Int) + (k : Int) := by omega
        go_enter Try.func24, Try.ntmps24
        go_wp2_with fail
        generalize w.alloc _ = W0 at *
        go_loopg [7] k (fun g s5 wr => ∃ n : Nat, m ≤ n ∧ n ≤ m + k ∧ m + k - n ≤ g ∧ s5 = .int .i64 n ∧ wr = W0 ∧ Hid (∀ p, m ≤ p → p < n → s p = none))
        case atStart => exact ⟨m, by omega, by omega, by omega, rfl, rfl, Lib.hid (fun p h1 h2 => by omega)⟩
        case round =>
          obtain ⟨n, hn0, hn1, hgn, rfl, rfl, HN⟩ := hrel
          by_cases hlt : n < m + k
          · have hz1 : (n : Int) < 512 := by omega
            have hz0 : (0 : Int) ≤ (n : Int) := by omega
            have hz2 : (n : Int) < (m : Int) + (k : Int) := by omega
            cases hs : s n with
            | none =>
              obtain ⟨⟨d0, d1, d2, d3, d4⟩, fz⟩ := S0.out.five (by omega) hs
              have HN2 : Hid (∀ p, m ≤ p → p < n + 1 → s p = none) := Lib.hid (fun p h1 h2 => by
                rcases Nat.lt_or_ge p n with h | h
                · exact HN.out p h1 h
                · obtain rfl : p = n := by omega
                  exact hs)
              clear hs
              go_wp2_with fail
              go_roundg (m + k - (n + 1))
              case measure => omega
              case rel => exact ⟨n + 1, by omega, by omega, by omega, by go_num, rfl, HN2⟩
            | some x =>
              obtain ⟨d0, d1, d2, d3, d4⟩ := S0.out.some (by omega) hs
              have hf : r = false := HR.out.no (fun h => by have := h.2.2.2 n hn0 hlt; rw [hs] at this; cases this)
              subst hf
              clear hs
              go_wp2_with fail
              go_ret
              exact ⟨rfl, B0.out⟩
          · obtain rfl : n = m + k := by omega
            have hf : r = true := HR.out.yes ⟨h1, h2, h3, HN.out⟩
            subst hf
            have hz2 : ¬ ((m + k : Nat) : Int) < (m : Int) + (k : Int) := by omega
            go_wp2_with fail
            go_ret
            exact ⟨rfl, B0.out⟩
      · have g3 : (512 : Int) < (m : Int) + (k : Int) := by omega
        have hf : r = false := HR.out.no (fun h => h3 h.2.2.1)
        subst hf
        go_enter Try.func24, Try.ntmps24
        go_wp2_with fail
        go_ret
        exact ⟨rfl, B0.out⟩
    · have g2 : (k : Int) < 1 := by omega
      have hf : r = false := HR.out.no (fun h => h2 h.2.1)
      subst hf
      go_enter Try.func24, Try.ntmps24
      go_wp2_with fail
      go_ret
      exact ⟨rfl, B0.out⟩
  · have g1 : (m : Int) < 16 := by omega
    have hf : r = false := HR.out.no (fun h => h1 h.1)
    subst hf
    go_enter Try.func24, Try.ntmps24
    go_wp2_with fail
    go_ret
    exact ⟨rfl, B0.out⟩

/-- Free pages are room. -/
theorem free_fits {X : List Ar} (hX : RightL X) (m k : Nat) : FreeN (spK X X.length) m k ↔ FitsAt X (4096 * (m : Int)) (4096 * (k : Int)) := by
  rw [fits_pages hX]
  unfold FreeN
  constructor
  · rintro ⟨h1, h2, h3, h4⟩
    refine ⟨by omega, by omega, by omega, fun p hp hq => ?_⟩
    have := (spK_free (l := X) p.toNat (by omega) (by omega)).1 (h4 p.toNat (by omega) (by omega))
    rwa [Int.toNat_of_nonneg (by omega)] at this
  · rintro ⟨h1, h2, h3, h4⟩
    have a1 := h4 m (by omega) (by omega)
    have a2 := h4 ((m : Int) + k - 1) (by omega) (by omega)
    have b1 := a1.1
    have b2 := a2.2.1
    refine ⟨by omega, by omega, by omega, fun p hp hq => (spK_free (l := X) p (by omega) (by omega)).2 (h4 p (by omega) (by omega))⟩
end Go.Proofs.Ytmocdanfjoginaa

/-
  Layer 8: of all addresses and sizes it is told whether there is room.
-/
namespace Go.Proofs.Ytmocdanfjoginaa
open Go.ChangeShapes Go.WideShapes Go.ChangeAt Go.RowKit Go.Shelf
set_option linter.unusedVariables false
attribute [local go_sem ↓] Go.wp_at_zero Go.wp_at_succ

theorem fits_num {X : List Ar} {addr size : Int} (h : FitsAt X addr size) : 65536 ≤ addr ∧ addr ≤ 2097152 ∧ addr % 4096 = 0 ∧ 1 ≤ size ∧ size ≤ 2031616 ∧ size % 4096 = 0 := by
  obtain ⟨h1, h2, h3, g, hg, h4, h5⟩ := h
  have := (gapsL_good g hg).lo; have := (gapsL_good g hg).hi
  omega
/-- What the tests ahead let by. -/
structure Asked (addr size : Int) : Prop where
  s1 : 1 ≤ size
  s2 : size ≤ 2031616
  s3 : size.tmod 4096 = 0
  a1 : addr.tmod 4096 = 0
  a2 : 0 ≤ addr
  a3 : addr ≤ 2097152
end Go.Proofs.Ytmocdanfjoginaa

/-
  Layer 8: the reference: the least, or the greatest, address with room: a contract.
-/
namespace Go.Proofs.Ytmocdanfjoginaa
open Go.ChangeShapes Go.WideShapes Go.ChangeAt Go.RowKit Go.Shelf
set_option linter.unusedVariables false
attribute [local go_sem ↓] Go.wp_at_zero Go.wp_at_succ

/-- The best page ahead of one, as an address; none: -1. -/
def BestTo (P : Nat → Prop) (gr : Bool) (n : Nat) (b : Int) : Prop :=
  (b = -1 ∧ ∀ p, 16 ≤ p → p < n → ¬ P p) ∨ (∃ m : Nat, 16 ≤ m ∧ m < n ∧ P m ∧ b = 4096 * (m : Int) ∧ ∀ q, 16 ≤ q → q < n → P q → if gr then q ≤ m else m ≤ q)
theorem BestTo.skip {P : Nat → Prop} {gr : Bool} {n : Nat} {b : Int} (h : BestTo P gr n b) (hn : ¬ P n) : BestTo P gr (n + 1) b := by
  have hs : ∀ q, q < n + 1 → P q → q < n := fun q hq hP => by
    rcases Nat.lt_or_ge q n with h | h
    · exact h
    · obtain rfl : q = n := by omega
      exact absurd hP hn
  rcases h with ⟨h1, h2⟩ | ⟨m, h1, h2, h3, h4, h5⟩
  · exact .inl ⟨h1, fun p hp hq hP => h2 p hp (hs p hq hP) hP⟩
  · exact .inr ⟨m, h1, by omega, h3, h4, fun q h6 h7 h8 => h5 q h6 (hs q h7 h8) h8⟩
theorem BestTo.take {P : Nat → Prop} {gr : Bool} {n : Nat} {b : Int} (h : BestTo P gr n b) (h16 : 16 ≤ n) (hn : P n) (hb : b < 0 ∨ gr = true) : BestTo P gr (n + 1) (4096 * (n : Int)) := by
  refine .inr ⟨n, h16, by omega, hn, rfl, fun q h6 h7 h8 => ?_⟩
  rcases h with ⟨h1, h2⟩ | ⟨m, h1, h2, h3, h4, h5⟩
  · have : q = n := by
      rcases Nat.lt_or_ge q n with h | h
      · exact absurd h8 (h2 q h6 h)
      · omega
    subst this; cases gr <;> simp
  · rcases hb with hb | rfl
    · omega
    · simp; omega
theorem BestTo.keep {P : Nat → Prop} {n : Nat} {b : Int} (h : BestTo P false n b) (hb : ¬ b < 0) : BestTo P false (n + 1) b := by
  rcases h with ⟨h1, h2⟩ | ⟨m, h1, h2, h3, h4, h5⟩
  · omega
  · refine .inr ⟨m, h1, by omega, h3, h4, fun q h6 h7 h8 => ?_⟩
    rcases Nat.lt_or_ge q n with h | h
    · exact h5 q h6 h h8
    · simp; omega
theorem BestTo.num {P : Nat → Prop} {gr : Bool} {n : Nat} {b : Int} (h : BestTo P gr n b) (hn : n ≤ 512) : -1 ≤ b ∧ b ≤ 2097152 := by
  rcases h with ⟨h1, h2⟩ | ⟨m, h1, h2, h3, h4, h5⟩ <;> omega

/-- The best address with room within bounds; none: -1. -/
def Best (X : List Ar) (lo hi size : Int) (gr : Bool) (b : Int) : Prop :=
  (b = -1 ∧ ∀ a, ¬ May X lo hi size a) ∨ (May X lo hi size b ∧ ∀ a, May X lo hi size a → if gr then a ≤ b else b ≤ a)
theorem may_num {X : List Ar} {lo hi size a : Int} (h : May X lo hi size a) : 65536 ≤ a ∧ a < 2097152 ∧ a % 4096 = 0 := by
  obtain ⟨⟨h1, h2, h3, g, hg, h4, h5⟩, h6, h7⟩ := h
  have := (gapsL_good g hg).lo; have := (gapsL_good g hg).hi
  omega
theorem Best.one {X : List Ar} {lo hi size : Int} {gr : Bool} {b c : Int} (h : Best X lo hi size gr b) (k : Best X lo hi size gr c) : b = c := by
  rcases h with ⟨h1, h2⟩ | ⟨h1, h2⟩
  · rcases k with ⟨k1, k2⟩ | ⟨k1, k2⟩
    · omega
    · exact absurd k1 (h2 _)
  · rcases k with ⟨k1, k2⟩ | ⟨k1, k2⟩
    · exact absurd h1 (k2 _)
    · have a1 := h2 _ k1
      have a2 := k2 _ h1
      cases gr <;> simp at a1 a2 <;> omega
/-- Page by page, and by addresses. -/
theorem best_to {X : List Ar} (hX : RightL X) {lo hi : Int} {k : Nat} {gr : Bool} {b : Int}
    (h : BestTo (fun p => lo ≤ 4096 * (p : Int) ∧ 4096 * (p : Int) + 4096 * (k : Int) ≤ hi ∧ FreeN (spK X X.length) p k) gr 512 b) : Best X lo hi (4096 * (k : Int)) gr b := by
  have hm : ∀ a, May X lo hi (4096 * (k : Int)) a → ∃ p : Nat, 16 ≤ p ∧ p < 512 ∧ a = 4096 * (p : Int) ∧ lo ≤ 4096 * (p : Int) ∧ 4096 * (p : Int) + 4096 * (k : Int) ≤ hi ∧ FreeN (spK X X.length) p k := fun a ha => by
    have hn := may_num ha
    obtain ⟨p, hp⟩ : ∃ p : Nat, a = 4096 * (p : Int) := ⟨(a / 4096).toNat, by omega⟩
    subst hp
    exact ⟨p, by omega, by omega, rfl, ha.2.1, ha.2.2, (free_fits hX p k).2 ha.1⟩
  rcases h with ⟨h1, h2⟩ | ⟨m, h1, h2, h3, h4, h5⟩
  · refine .inl ⟨h1, fun a ha => ?_⟩
    obtain ⟨p, e1, e2, e3, e4⟩ := hm a ha
    exact h2 p e1 e2 e4
  · refine .inr ⟨?_, fun a ha => ?_⟩
    · rw [h4]; exact ⟨(free_fits hX m k).1 h3.2.2, h3.1, h3.2.1⟩
    · obtain ⟨p, e1, e2, e3, e4⟩ := hm a ha
      have := h5 p e1 e2 e4
      cases gr <;> simp at this ⊢ <;> omega

theorem low_best {X : List Ar} {lo hi size a : Int} (h : May X lo hi size a) (k : ∀ b, May X lo hi size b → a ≤ b) : Best X lo hi size false a := .inr ⟨h, fun b hb => by simpa using k b hb⟩
theorem high_best {X : List Ar} {lo hi size a : Int} (h : May X lo hi size a) (k : ∀ b, May X lo hi size b → b ≤ a) : Best X lo hi size true a := .inr ⟨h, fun b hb => by simpa using k b hb⟩
end Go.Proofs.Ytmocdanfjoginaa
