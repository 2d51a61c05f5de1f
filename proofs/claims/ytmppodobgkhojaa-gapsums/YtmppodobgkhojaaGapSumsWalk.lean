/-
  Layer 8: pages and gaps make up the space.
-/
import Derived.Test.YtmppodobgkhojaaGapLaw
namespace Go.Proofs.Ytmppodobgkhojaa
open Go.ChangeShapes Go.WideShapes Go.ChangeAt Go.RowKit Go.Shelf
set_option linter.unusedVariables false
attribute [local go_sem ↓] Go.wp_at_zero Go.wp_at_succ

/-- How many pages gaps have. -/
def pagesG : List Gp → Int
  | [] => 0
  | g :: r => (g.e - g.s) / 4096 + pagesG r
theorem pagesG_snoc (l : List Gp) (g : Gp) : pagesG (l ++ [g]) = pagesG l + (g.e - g.s) / 4096 := by
  induction l with
  | nil => simp [pagesG]
  | cons a r ih => simp only [List.cons_append, pagesG, ih]; omega
theorem sums_from : ∀ {r : List Ar} {st : Int}, Rest st r → 4096 * pagesG (gapsFrom st r) + sumL r = 2097152 - st
  | [], st, h => by
    have := h.page
    have := h.hi
    unfold gapsFrom
    by_cases hl : st < 2097152
    · rw [if_pos hl]; simp [pagesG, sumL]; omega
    · rw [if_neg hl]; simp [pagesG, sumL]; omega
  | a :: r, st, h => by
    have ih := sums_from h.tail
    have ha := formed_num (h.formed a (by simp))
    have hs := h.from' a (by simp)
    have hp := h.page
    unfold gapsFrom
    by_cases hl : st < a.s
    · rw [if_pos hl]; simp only [List.cons_append, List.nil_append, pagesG, sumL]; omega
    · rw [if_neg hl]; simp only [List.nil_append, sumL]; omega
theorem sums_all {l : List Ar} (h : RightL l) : sumL l / 4096 + pagesG (gapsL l) = 496 := by
  have := sums_from (Rest.of_right h)
  unfold gapsL
  rw [if_pos h]
  omega
theorem pagesG_bound {l : List Gp} (h : ∀ g ∈ l, GoodG g) : 0 ≤ pagesG l ∧ pagesG l ≤ 512 * l.length := by
  induction l with
  | nil => simp [pagesG]
  | cons g r ih =>
    have := ih (fun x hx => h x (by simp [hx]))
    have hg := h g (by simp)
    have := hg.lo; have := hg.lt; have := hg.hi
    simp only [pagesG, List.length_cons]
    push_cast
    omega

set_option maxHeartbeats 2000000 in
theorem sums_many (A : Option Addr) (n c : Nat) (w : World) (hn : 20 < n) :
    Calls Try.prog 3 #[.slice A n c] w fun e w' => e = .returned (.bool true) ∧ Below w.heap.size w w' := by
  have W0 := Lib.hid gap_awake
  have hz : (20 : Int) < (n : Int) := by omega
  go_enter Try.func3, Try.ntmps3
  go_wp2_with fail
  refine (W0.out _).mono ?_
  rintro e w1 ⟨rfl, hb1⟩
  have B1 := Lib.hid hb1
  clear hb1
  go_wp2_with fail
  refine (W0.out _).mono ?_
  rintro e w2 ⟨rfl, hb2⟩
  have B2 := Lib.hid (below_then B1.out hb2 (Nat.le_refl _))
  clear hb2
  go_wp2_with fail
  go_ret
  exact ⟨rfl, B2.out⟩

/-- Where the loop stands. -/
def SumsAt (gs : List Gp) (M : Int) (w : World) (g : Nat) (s4 s6 : Value) (wr : World) : Prop := ∃ k q : Nat, k ≤ gs.length ∧ gs.length - k ≤ g ∧ s6 = .int .i64 k ∧ s4 = .int .i64 (M + pagesG (gs.take k)) ∧ wr = w.drewN q
theorem pagesG_take {gs : List Gp} {k : Nat} (h : k < gs.length) : pagesG (gs.take (k + 1)) = pagesG (gs.take k) + (gs[k].e - gs[k].s) / 4096 := by
  rw [List.take_succ_eq_append_getElem h, pagesG_snoc]
theorem apart_next {gs : List Gp} (h : Apart gs) {j : Nat} (hj : j + 1 < gs.length) : gs[j].e < gs[j + 1].s := List.pairwise_iff_getElem.1 h j (j + 1) (by omega) hj (by omega)

set_option maxRecDepth 4000 in
set_option maxHeartbeats 4000000 in
theorem sums_few (l : List Ar) (v : Value) (w : World) (hl : l.length ≤ 20) (hA : Holds w v l) :
    Calls Try.prog 3 #[v] w fun e w' => e = .returned (.bool true) ∧ Below w.heap.size w w' := by
  have W0 := Lib.hid gap_awake
  have KL := Lib.hid hA
  have CM : Hid (∀ w' u, Holds w' u l → Calls Try.prog 11 #[u] w' fun e w'' => ∃ v', e = .returned v' ∧ Holds w'' v' (madeL l) ∧ Below w'.heap.size w' w'') := Lib.hid (fun w' u h => made_c h (by omega))
  have hX := madeL_right l
  have hXl : (madeL l).length ≤ 496 := right_len hX
  generalize madeL l = X at *
  have CP : Hid (∀ w' u, Holds w' u X → _) := Lib.hid (fun w' u h => pages_c h hX)
  have CG : Hid (∀ w' u, Holds w' u X → _) := Lib.hid (fun w' u h => gaps_c h (by omega))
  have hsum := sums_all hX
  have hgl := gapsL_len X
  have HG := Lib.hid (gapsL_good (l := X))
  have HP := Lib.hid (gapsL_apart X)
  have hpb := pagesG_bound (gapsL_good (l := X))
  obtain ⟨A, c, rfl⟩ := hA.is
  clear hA hX
  generalize gapsL X = gs at *
  generalize hM : sumL X / 4096 = M at *
  have hMb : -1000000 ≤ M ∧ M ≤ 496 := by omega
  clear hM
  generalize l.length = n at *
  go_enter Try.func3, Try.ntmps3
  go_wp2_with fail
  refine (W0.out _).mono ?_
  rintro e w1 ⟨rfl, hb⟩
  have B := Lib.hid hb
  have K1 := Lib.hid (KL.out.still hb)
  clear hb KL
  go_wp2_with fail
  refine (CM.out _ _ K1.out).mono ?_
  rintro e w2 ⟨vx, rfl, hX, hb⟩
  have B := Lib.hid (below_then B.out hb (Nat.le_refl _))
  have KX := Lib.hid hX
  clear hb hX K1 CM
  go_wp2_with fail
  refine (CP.out _ _ KX.out).mono ?_
  rintro e w3 ⟨rfl, hb⟩
  have B := Lib.hid (below_then B.out hb (Nat.le_refl _))
  have KX := Lib.hid (KX.out.still hb)
  clear hb CP
  go_wp2_with fail
  refine (CG.out _ _ KX.out).mono ?_
  rintro e w4 ⟨vg, rfl, ⟨Ag, cg, rfl, hg⟩, hb⟩
  have B := Lib.hid (below_then B.out hb (Nat.le_refl _))
  have KG := Lib.hid hg
  clear hb CG hg KX
  have HS := Lib.hid hsum
  clear hsum
  generalize hN : gs.length = ng at *
  have HN := Lib.hid hN
  clear hN
  go_wp2_with fail
  have E0 : Hid (SumsAt gs M w4 ng (.int .i64 M) (.int .i64 0) w4) := Lib.hid ⟨0, 0, Nat.zero_le _, by rw [HN.out]; omega, rfl, by simp [pagesG], rfl⟩
  go_loopg [4, 6] ng (fun g s4 s6 wr => SumsAt gs M w4 g s4 s6 wr)
  case atStart => exact E0.out
  case round =>
    obtain ⟨k, q, hk, hg, rfl, rfl, rfl⟩ := hrel
    rw [HN.out] at hk hg
    have hb0 := pagesG_bound (l := gs.take k) (fun g hg => HG.out g (List.take_subset _ _ hg))
    have hbl : ((gs.take k).length : Int) ≤ ng := by rw [List.length_take]; omega
    by_cases hlt : k < ng
    · have hltz : (k : Int) < (ng : Int) := by omega
      have hz0 : (0 : Int) ≤ (k : Int) := by omega
      have hlk : k < gs.length := by rw [HN.out]; exact hlt
      have HT := Lib.hid (pagesG_take hlk)
      have hgk := HG.out gs[k] (List.getElem_mem hlk)
      have hk1 := hgk.lo; have hk2 := hgk.lt; have hk3 := hgk.hi
      rcases KG.out with hn | ⟨b, rfl, hb, hcs⟩
      · rw [hn] at hlk; simp at hlk
      obtain ⟨c0, c1⟩ := hcs k hlk
      have hap : Hid (∀ j, (h : j + 1 < gs.length) → gs[j].e < gs[j + 1].s) := Lib.hid (fun j h => apart_next HP.out h)
      clear hgk
      by_cases hk0 : k = 0
      · generalize pagesG (gs.take k) = T0 at *
        generalize hg0 : gs[k].s = g0 at *
        generalize hg1 : gs[k].e = g1 at *
        have hd : (g1 - g0).tdiv 4096 = (g1 - g0) / 4096 := Int.tdiv_eq_ediv_of_nonneg (by omega)
        have hw4 : ¬ (0 : Int) < (k : Int) := by omega
        have hwA : decide (g1 ≤ g0) = false := decide_eq_false (by omega)
        have hwB : ¬ g1 ≤ g0 := by omega
        have hw7 : ¬ 0 < k := by omega
        have hw8 : decide (0 < k) = false := decide_eq_false hw7
        have hw9 : decide ((0 : Int) < (k : Int)) = false := decide_eq_false hw4
        clear hg0 hg1 hcs HP HG hap hk0
        go_wp2_with fail
        go_quiet (fail)
        go_wp2_with fail
        go_quiet (fail)
        go_wp2_with fail
        go_roundg (ng - (k + 1))
        case measure => omega
        case rel => exact ⟨k + 1, _, by rw [HN.out]; omega, by rw [HN.out]; omega, by go_num, by rw [HT.out]; congr 1; omega, rfl⟩
      · obtain ⟨j, hj⟩ : ∃ j, k = j + 1 := ⟨k - 1, by omega⟩
        have hJ : gs[j].e < gs[k].s := by
          have := hap.out j (by omega)
          simpa only [hj] using this
        obtain ⟨d0, d1⟩ := hcs j (by omega)
        generalize pagesG (gs.take k) = T0 at *
        generalize hg0 : gs[k].s = g0 at *
        generalize hg1 : gs[k].e = g1 at *
        generalize hg2 : gs[j].s = g2 at *
        generalize hg3 : gs[j].e = g3 at *
        have hd : (g1 - g0).tdiv 4096 = (g1 - g0) / 4096 := Int.tdiv_eq_ediv_of_nonneg (by omega)
        have hw2 : (j : Int) < (ng : Int) := by omega
        have hw3 : (0 : Int) ≤ (j : Int) := by omega
        have hw4 : (0 : Int) < (k : Int) := by omega
        have hw5 : (k : Int) - 1 = (j : Int) := by omega
        have hw6 : ¬ g0 ≤ g3 := by omega
        have hwA : decide (g1 ≤ g0) = false := decide_eq_false (by omega)
        have hwB : ¬ g1 ≤ g0 := by omega
        have hwC : decide (g0 ≤ g3) = false := decide_eq_false hw6
        have hw1 : IntKind.i64.wrap (j : Int) = (j : Int) := by rw [IntKind.wrap_i64]; omega
        have hw7 : 0 < k := by omega
        have hw8 : decide (0 < k) = true := decide_eq_true hw7
        have hw9 : decide ((0 : Int) < (k : Int)) = true := decide_eq_true hw4
        clear hg0 hg1 hg2 hg3 hcs HP HG hap hj hk0
        go_wp2_with fail
        go_quiet (fail)
        go_wp2_with fail
        go_quiet (fail)
        go_wp2_with fail
        go_roundg (ng - (k + 1))
        case measure => omega
        case rel => exact ⟨k + 1, _, by rw [HN.out]; omega, by rw [HN.out]; omega, by go_num, by rw [HT.out]; congr 1; omega, rfl⟩
    · obtain rfl : k = ng := by omega
      have hT : gs.take k = gs := by rw [← HN.out]; exact List.take_length
      rw [hT]
      have hS := HS.out
      generalize M + pagesG gs = S at *
      subst hS
      go_wp2_with fail
      go_ret
      exact ⟨rfl, below_drewN B.out q⟩
theorem sums_any (l : List Ar) (v : Value) (w : World) (hA : Holds w v l) :
    Calls Try.prog 3 #[v] w fun e w' => e = .returned (.bool true) ∧ Below w.heap.size w w' := by
  by_cases hn : l.length ≤ 20
  · exact sums_few l v w hn hA
  · obtain ⟨A, c, rfl⟩ := hA.is
    exact sums_many A l.length c w (by omega)
end Go.Proofs.Ytmppodobgkhojaa
