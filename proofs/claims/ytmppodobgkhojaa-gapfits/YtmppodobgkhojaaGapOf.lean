/-
  Layer 8: the pages of a right list, by the reference: a contract.
-/
import Derived.Test.YtmppodobgkhojaaGapLaw
namespace Go.Proofs.Ytmppodobgkhojaa
open Go.ChangeShapes Go.WideShapes Go.ChangeAt Go.RowKit Go.Shelf
set_option linter.unusedVariables false
attribute [local go_sem ↓] Go.wp_at_zero Go.wp_at_succ

/-- The pages of the first areas; and of one more, ahead of a page. -/
def spK (l : List Ar) (k : Nat) : Sp := fun p => tab (l.take k) p
def spM (l : List Ar) (k : Nat) (a : Ar) (n : Nat) : Sp := fun p => if Cov a p ∧ p < n then some (a.at p) else tab (l.take k) p
theorem spM_put (l : List Ar) (k : Nat) (a : Ar) (n : Nat) (hc : Cov a n) : (spM l k a n).put n (some (a.at n)) = spM l k a (n + 1) := by
  funext p
  unfold Sp.put spM
  by_cases hp : p = n
  · subst hp; rw [if_pos rfl, if_pos ⟨hc, by omega⟩]
  · rw [if_neg hp]
    by_cases h1 : Cov a p ∧ p < n
    · rw [if_pos h1, if_pos ⟨h1.1, by omega⟩]
    · rw [if_neg h1, if_neg (fun h => h1 ⟨h.1, by omega⟩)]
theorem spM_all {l : List Ar} (hd : l.Pairwise Disj) {k : Nat} (hk : k < l.length) (m : Nat) (hm : ∀ p : Nat, Cov l[k] p → p < m) : spM l k l[k] m = spK l (k + 1) := by
  funext p
  unfold spM spK
  rw [List.take_succ_eq_append_getElem hk, tab_app]
  by_cases h : Cov l[k] p
  · rw [if_pos ⟨h, hm p h⟩]
    have hn : tab (l.take k) p = none := tab_none fun b hb hc => by
      obtain ⟨i, hi, rfl⟩ := List.getElem_of_mem hb
      have hi' : i < k := by rw [List.length_take] at hi; omega
      rw [List.getElem_take] at hc
      exact List.pairwise_iff_getElem.1 hd i k (by omega) hk hi' p hc h
    rw [hn]; simp [tab, h]
  · rw [if_neg (fun k => h k.1)]; simp [tab, h]

set_option maxHeartbeats 8000000 in
theorem ofL_any (l : List Ar) (hr : RightL l) (A : Option Addr) (c : Nat) (w : World) (hA : Areas w.heap.size w A l) :
    Calls Try.prog 19 #[.slice A l.length c] w fun e w' => e = .returned (.agg (spc (spK l l.length))) ∧ Below w.heap.size w w' := by
  have hlen := right_len hr
  have HD := Lib.hid (right_disj hr)
  have HF := Lib.hid (right_formed hr)
  have O0 := Lib.hid (OfAt.new w)
  have HA := Lib.hid hA
  clear hA hr
  have S0 : Hid (spK l 0 = fun _ => none) := Lib.hid (by funext p; simp [spK, tab])
  obtain ⟨len, hL⟩ : ∃ len, l.length = len := ⟨_, rfl⟩
  rw [hL] at hlen ⊢
  have HL := Lib.hid hL
  clear hL
  go_enter Try.func19, Try.ntmps19
  go_wp2_with fail
  generalize (w.alloc _).alloc _ = W0 at *
  go_loopg [4, 5, 6, 7] len (fun g s4 _ _ _ wr => ∃ k : Nat, k ≤ len ∧ len - k ≤ g ∧ s4 = .int .i64 k ∧ Hid (OfAt w wr (spK l k)))
  case atStart => exact ⟨0, by omega, by omega, rfl, by rw [S0.out]; exact O0⟩
  case round =>
    obtain ⟨k, hk, hg, rfl, HO⟩ := hrel
    by_cases hlt : k < len
    · have hltz : (k : Int) < (len : Int) := by omega
      have hkz0 : (0 : Int) ≤ (k : Int) := by omega
      have hlk : k < l.length := by rw [HL.out]; exact hlt
      have hn := formed_num (HF.out l[k] (List.getElem_mem hlk))
      obtain ⟨m0, hm0⟩ : ∃ m0 : Nat, l[k].s = 4096 * (m0 : Int) := ⟨(l[k].s / 4096).toNat, by omega⟩
      obtain ⟨m1, hm1⟩ : ∃ m1 : Nat, l[k].e = 4096 * (m1 : Int) := ⟨(l[k].e / 4096).toNat, by omega⟩
      have X := Lib.hid (fun (n : Nat) (h1 : m0 ≤ n) (h2 : n < m1) => refAttr_in l[k] n (by omega) (by omega) (by omega) (by omega) (by omega) (by omega))
      have q0 : l[k].s.tdiv 4096 = (m0 : Int) := by rw [tdiv_up (by omega)]; omega
      have q1 : l[k].e.tdiv 4096 = (m1 : Int) := by rw [tdiv_up (by omega)]; omega
      have hmm : 16 ≤ m0 ∧ m0 < m1 ∧ m1 ≤ 512 := by omega
      have HC : Hid (∀ n : Nat, m0 ≤ n → n < m1 → Cov l[k] n) := Lib.hid (fun n h1 h2 => by unfold Cov; omega)
      have HS0 : Hid (spM l k l[k] m0 = spK l k) := Lib.hid (by funext p; unfold spM spK; rw [if_neg (by unfold Cov; omega)])
      have HS1 : Hid (spM l k l[k] m1 = spK l (k + 1)) := Lib.hid (spM_all HD.out hlk m1 (fun p hp => by unfold Cov at hp; omega))
      rcases HA.out with hnl | ⟨b, off, rfl, hb, hcs⟩
      · rw [hnl] at hlk; simp at hlk
      have HAT := Lib.hid (fun W h => (hcs k hlk).below (w' := W) h hb)
      clear hcs hm0 hm1 hn
      generalize l[k] = a at *
      obtain ⟨c0, c1, c2, c3, c4, c5⟩ := HAT.out _ HO.out.bel
      go_wp2_with fail
      go_loopg [5, 6, 7] (m1 - m0) (fun g s5 _ _ wr => ∃ n : Nat, m0 ≤ n ∧ n ≤ m1 ∧ m1 - n ≤ g ∧ s5 = .int .i64 n ∧ Hid (OfAt w wr (spM l k a n)))
      case atStart => exact ⟨m0, by omega, by omega, by omega, rfl, by rw [HS0.out]; exact HO⟩
      case round =>
        obtain ⟨n, hn0, hn1, hgn, rfl, HN⟩ := hrel
        clear c0 c1 c2 c3 c4 c5 HO
        obtain ⟨c0, c1, c2, c3, c4, c5⟩ := HAT.out _ HN.out.bel
        by_cases hln : n < m1
        · have hlz : (n : Int) < (m1 : Int) := by omega
          have hz0 : (0 : Int) ≤ (n : Int) := by omega
          have hz1 : (n : Int) < 512 := by omega
          have X1 := Lib.hid (X.out n hn0 hln)
          have N1 := Lib.hid (fun W h => (OfAt.still (w' := W) HN.out h))
          have SP := Lib.hid (spM_put l k a n (HC.out n hn0 hln))
          generalize a.at (n : Int) = x at *
          obtain ⟨x0, x1, x2, x3⟩ := x
          simp only [Ar.v, At.v] at X1
          go_wp2_with fail
          refine (X1.out _).mono ?_
          rintro e w1 ⟨rfl, hb1⟩
          have N2 := Lib.hid (N1.out _ (hb1.alloc hb1.size (.cells #[.int .i64 x0, .bool x1, .int .i64 x2, .int .i64 x3] 39)))
          clear hb1 c0 c1 c2 c3 c4 c5
          obtain ⟨⟨d0, d1, d2, d3, d4, i0, i1, i2, i3, i4⟩, fz⟩ := sp_is N2.out.s (p := n) (by omega)
          go_wp2_with fail
          go_roundg (m1 - (n + 1))
          case measure => omega
          case rel =>
            refine ⟨n + 1, by omega, by omega, by omega, by go_num, Lib.hid ?_⟩
            rw [← SP.out]
            exact N2.out.put (by omega) ⟨x0, x1, x2, x3⟩
        · obtain rfl : n = m1 := by omega
          go_wp2_with fail
          go_roundg (len - (k + 1))
          case measure => omega
          case rel =>
            refine ⟨k + 1, by omega, by omega, by go_num, Lib.hid ?_⟩
            rw [← HS1.out]
            exact HN.out
    · obtain rfl : k = len := by omega
      go_wp2_with (first | (refine wpList_load_mid rfl 43 (.tmp 3) (by rfl) (w.heap.size + 1) 0 (by rfl) (spl (spK l k) 512) _ HO.out.s.range Try.underlying43 rfl (space_size _) ?_) | (refine wpList_store_mid rfl 43 (.tmp 2) (.tmp 43) (by rfl) w.heap.size 0 (spl (spK l k) 512).toArray (by rfl) (by rfl) HO.out.z.there (space_size' _) (spl_one _ _) ?_))
      refine bodyPost_ret (results_cell_row rfl _ _ w.heap.size 43 (spc (spK l k)) (0, 0) _ rfl HO.out.z.all Try.underlying43 rfl (space_size' _)) rfl ?_
      exact ⟨rfl, HO.out.bel.trans ((only_many _ _ _).below (B := w.heap.size) (fun k hk => by omega) HO.out.bel.size)⟩
/-- The pages of a right list. -/
theorem spK_free {l : List Ar} (p : Nat) (h1 : 16 ≤ p) (h2 : p < 512) : spK l l.length p = none ↔ FreeP l p := by
  unfold spK FreeP
  rw [List.take_length]
  constructor
  · intro h; exact ⟨by omega, by omega, h⟩
  · intro h; exact h.2.2
end Go.Proofs.Ytmppodobgkhojaa
