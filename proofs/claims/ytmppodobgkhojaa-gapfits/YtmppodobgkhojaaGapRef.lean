/-
  Layer 8: the reference: whether pages are free, whether there is room: a contract for each call.
-/
import Derived.Test.YtmppodobgkhojaaGapOf
namespace Go.Proofs.Ytmppodobgkhojaa
open Go.ChangeShapes Go.WideShapes Go.ChangeAt Go.RowKit Go.Shelf
set_option linter.unusedVariables false
attribute [local go_sem ↓] Go.wp_at_zero Go.wp_at_succ

/-- So many pages are free, from one on. -/
def FreeN (s : Sp) (m k : Nat) : Prop := 16 ≤ m ∧ 1 ≤ k ∧ m + k ≤ 512 ∧ ∀ p, m ≤ p → p < m + k → s p = none
set_option maxRecDepth 100000 in
set_option maxHeartbeats 4000000 in
theorem free_any (s : Sp) (m k : Nat) (hm : m ≤ 512) (hk : k ≤ 496) {r : Bool} (hr : Tells r (FreeN s m k)) (w : World) :
    Calls Try.prog 34 #[.agg (spc s), .int .i64 m, .int .i64 k] w fun e w' => e = .returned (.bool r) ∧ Below w.heap.size w w' := by
  have S0 : Hid (SpIn (w.alloc (.cells (spc s) 43)) w.heap.size s) := Lib.hid (Whole.new _ _ _)
  have B0 := Lib.hid (below_new w (.cells (spc s) 43))
  have HR := Lib.hid hr
  clear hr
  have hk2 : ¬ (496 : Int) < (k : Int) := by omega
  by_cases h1 : 16 ≤ m
  · have g1 : ¬ (m : Int) < 16 := by omega
    by_cases h2 : 1 ≤ k
    · have g2 : ¬ (k : Int) < 1 := by omega
      by_cases h3 : m + k ≤ 512
      · have g3 : ¬ (512 : Int) < (m : Int) + (k : Int) := by omega
        go_enter Try.func34, Try.ntmps34
        go_wp2_with fail
        generalize w.alloc _ = W0 at *
        go_loopg [7] k (fun g s5 wr => ∃ n : Nat, m ≤ n ∧ n ≤ m + k ∧ m + k - n ≤ g ∧ s5 = .int .i64 n ∧ wr = W0 ∧ Hid (∀ p, m ≤ p → p < n → s p = none))
        case atStart => exact ⟨m, by omega, by omega, by omega, rfl, rfl, Lib.hid (fun p h1 h2 => by omega)⟩
        case round =>
          obtain ⟨n, hn0, hn1, hgn, rfl, rfl, HN⟩ := hrel
          by_cases hlt : n < m + k
          · have hz1 : (n : Int) < 512 := by omega
            have hz0 : (0 : Int) ≤ (n : Int) := by omega
            have hz2 : (n : Int) < (m : Int) + (k : Int) := by omega
            cases hs : s n with
            | none =>
              obtain ⟨⟨d0, d1, d2, d3, d4⟩, fz⟩ := S0.out.five (by omega) hs
              have HN2 : Hid (∀ p, m ≤ p → p < n + 1 → s p = none) := Lib.hid (fun p h1 h2 => by
                rcases Nat.lt_or_ge p n with h | h
                · exact HN.out p h1 h
                · obtain rfl : p = n := by omega
                  exact hs)
              clear hs
              go_wp2_with fail
              go_roundg (m + k - (n + 1))
              case measure => omega
              case rel => exact ⟨n + 1, by omega, by omega, by omega, by go_num, rfl, HN2⟩
            | some x =>
              obtain ⟨d0, d1, d2, d3, d4⟩ := S0.out.some (by omega) hs
              have hf : r = false := HR.out.no (fun h => by have := h.2.2.2 n hn0 hlt; rw [hs] at this; cases this)
              subst hf
              clear hs
              go_wp2_with fail
              go_ret
              exact ⟨rfl, B0.out⟩
          · obtain rfl : n = m + k := by omega
            have hf : r = true := HR.out.yes ⟨h1, h2, h3, HN.out⟩
            subst hf
            have hz2 : ¬ ((m + k : Nat) : Int) < (m : Int) + (k : Int) := by omega
            go_wp2_with fail
            go_ret
            exact ⟨rfl, B0.out⟩
      · have g3 : (512 : Int) < (m : Int) + (k : Int) := by omega
        have hf : r = false := HR.out.no (fun h => h3 h.2.2.1)
        subst hf
        go_enter Try.func34, Try.ntmps34
        go_wp2_with fail
        go_ret
        exact ⟨rfl, B0.out⟩
    · have g2 : (k : Int) < 1 := by omega
      have hf : r = false := HR.out.no (fun h => h2 h.2.1)
      subst hf
      go_enter Try.func34, Try.ntmps34
      go_wp2_with fail
      go_ret
      exact ⟨rfl, B0.out⟩
  · have g1 : (m : Int) < 16 := by omega
    have hf : r = false := HR.out.no (fun h => h1 h.1)
    subst hf
    go_enter Try.func34, Try.ntmps34
    go_wp2_with fail
    go_ret
    exact ⟨rfl, B0.out⟩

/-- Free pages are room. -/
theorem free_fits {X : List Ar} (hX : RightL X) (m k : Nat) : FreeN (spK X X.length) m k ↔ FitsAt X (4096 * (m : Int)) (4096 * (k : Int)) := by
  rw [fits_pages hX]
  unfold FreeN
  constructor
  · rintro ⟨h1, h2, h3, h4⟩
    refine ⟨by omega, by omega, by omega, fun p hp hq => ?_⟩
    have := (spK_free (l := X) p.toNat (by omega) (by omega)).1 (h4 p.toNat (by omega) (by omega))
    rwa [Int.toNat_of_nonneg (by omega)] at this
  · rintro ⟨h1, h2, h3, h4⟩
    have a1 := h4 m (by omega) (by omega)
    have a2 := h4 ((m : Int) + k - 1) (by omega) (by omega)
    have b1 := a1.1
    have b2 := a2.2.1
    refine ⟨by omega, by omega, by omega, fun p hp hq => (spK_free (l := X) p (by omega) (by omega)).2 (h4 p (by omega) (by omega))⟩
end Go.Proofs.Ytmppodobgkhojaa
