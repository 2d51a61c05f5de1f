/-
  Layer 8: the gaps are told, rising, each as long as may be, and the longest.
-/
import Derived.Test.YtmppodobgkhojaaGapTold
namespace Go.Proofs.Ytmppodobgkhojaa
open Go.ChangeShapes Go.WideShapes Go.ChangeAt Go.RowKit Go.Shelf
set_option linter.unusedVariables false
attribute [local go_sem ↓] Go.wp_at_zero Go.wp_at_succ

set_option maxHeartbeats 2000000 in
theorem all_many (A : Option Addr) (n c : Nat) (w : World) (hn : 20 < n) :
    Calls Try.prog 5 #[.slice A n c] w fun e w' => e = .returned (.bool true) ∧ Below w.heap.size w w' := by
  have W0 := Lib.hid gap_awake
  have hz : (20 : Int) < (n : Int) := by omega
  go_enter Try.func5, Try.ntmps5
  go_wp2_with fail
  refine (W0.out _).mono ?_
  rintro e w1 ⟨rfl, hb1⟩
  have B1 := Lib.hid hb1
  clear hb1
  go_wp2_with fail
  refine (W0.out _).mono ?_
  rintro e w2 ⟨rfl, hb2⟩
  have B2 := Lib.hid (below_then B1.out hb2 (Nat.le_refl _))
  clear hb2
  go_wp2_with fail
  go_ret
  exact ⟨rfl, B2.out⟩

/-- A space that lies in a variable, behind a call. -/
theorem sp_new {w w' : World} (hb : Below w.heap.size w w') (s : Sp) : SpIn ((w'.alloc (.cells Try.zeroCells43 43)).setCells w'.heap.size 0 (spl s 512)) w'.heap.size s ∧ Below w'.heap.size w' ((w'.alloc (.cells Try.zeroCells43 43)).setCells w'.heap.size 0 (spl s 512)) := by
  have hz : SpIn (w'.alloc (.cells Try.zeroCells43 43)) w'.heap.size (fun _ => none) := by
    rw [zero_spc]; exact Whole.new _ _ _
  have ho := only_many (q := w'.heap.size) (spl s 512) 0 (w'.alloc (.cells Try.zeroCells43 43))
  have h1 := below_new w' (.cells Try.zeroCells43 43)
  exact ⟨hz.all, h1.trans (ho.below (fun k hk => by omega) h1.size)⟩
/-- Where the outer loop stands. -/
def AllAt (gs : List Gp) (w : World) (g : Nat) (s6 s7 s8 : Value) (wr : World) : Prop := ∃ n m q : Nat, 16 ≤ m ∧ m ≤ 512 ∧ 512 - m ≤ g ∧ s6 = .int .i64 n ∧ s7 = .int .i64 (mostL (gs.take n)) ∧ s8 = .int .i64 m ∧ Hid (Begun gs m n) ∧ wr = w.drewN q
/-- Where the inner loop stands. -/
def RunAt (m ke : Nat) (w : World) (g : Nat) (s9 : Value) (wr : World) : Prop := ∃ p q : Nat, m ≤ p ∧ p ≤ ke ∧ ke - p ≤ g ∧ s9 = .int .i64 p ∧ wr = w.drewN q

set_option maxRecDepth 100000 in
set_option maxHeartbeats 8000000 in
theorem all_few (l : List Ar) (v : Value) (w : World) (hl : l.length ≤ 20) (hA : Holds w v l) :
    Calls Try.prog 5 #[v] w fun e w' => e = .returned (.bool true) ∧ Below w.heap.size w w' := by
  have W0 := Lib.hid gap_awake
  have KL := Lib.hid hA
  have CM : Hid (∀ w' u, Holds w' u l → Calls Try.prog 11 #[u] w' fun e w'' => ∃ v', e = .returned v' ∧ Holds w'' v' (madeL l) ∧ Below w'.heap.size w' w'') := Lib.hid (fun w' u h => made_c h (by omega))
  have hX := madeL_right l
  have hXl : (madeL l).length ≤ 496 := right_len hX
  generalize madeL l = X at *
  have CO : Hid (∀ w' u, Holds w' u X → Calls Try.prog 19 #[u] w' fun e w'' => e = .returned (.agg (spc (spK X X.length))) ∧ Below w'.heap.size w' w'') := Lib.hid (fun w' u h => by
    obtain ⟨A, c, rfl, hc, hA⟩ := h
    exact ofL_any X hX A c w' hA)
  have CG : Hid (∀ w' u, Holds w' u X → Calls Try.prog 13 #[u] w' fun e w'' => ∃ v', e = .returned v' ∧ HoldsG w'' v' (gapsL X) ∧ Below w'.heap.size w' w'') := Lib.hid (fun w' u h => gaps_c h (by omega))
  have CL : Hid (∀ w' u, Holds w' u X → Calls Try.prog 16 #[u] w' fun e w'' => e = .returned (.int .i64 (mostL (gapsL X))) ∧ Below w'.heap.size w' w'') := Lib.hid (fun w' u h => largest_c h (by omega))
  have HP := Lib.hid (pagesOf hX)
  have hgl := gapsL_len X
  obtain ⟨A, c, rfl⟩ := hA.is
  clear hA hX
  generalize gapsL X = gs at *
  generalize spK X X.length = s at *
  generalize l.length = n at *
  go_enter Try.func5, Try.ntmps5
  go_wp2_with fail
  refine (W0.out _).mono ?_
  rintro e w1 ⟨rfl, hb⟩
  have B := Lib.hid hb
  have K1 := Lib.hid (KL.out.still hb)
  clear hb KL
  go_wp2_with fail
  refine (CM.out _ _ K1.out).mono ?_
  rintro e w2 ⟨vx, rfl, hX, hb⟩
  have B := Lib.hid (below_then B.out hb (Nat.le_refl _))
  have KX := Lib.hid hX
  clear hb hX K1 CM
  go_wp2_with fail
  refine (CO.out _ _ KX.out).mono ?_
  rintro e w3 ⟨rfl, hb⟩
  have B := Lib.hid (below_then B.out hb (Nat.le_refl _))
  have KX := Lib.hid (KX.out.still hb)
  have TH : Hid ((w3.alloc (.cells Try.zeroCells43 43)).there w3.heap.size 0 (spl s 512).toArray.size) := Lib.hid (SpIn.there (s := fun _ => none) (by rw [zero_spc]; exact Whole.new _ _ _))
  have hnew := sp_new (w := w3) (w' := w3) (Below.refl _ _) s
  have SP := Lib.hid hnew.1
  have KX := Lib.hid (KX.out.still hnew.2)
  have B := Lib.hid (below_then B.out hnew.2 (Nat.le_refl _))
  clear hb CO hnew
  go_wp2_with (first | (refine wpList_store_mid rfl 43 (.tmp 4) (.tmp 17) (by rfl) w3.heap.size 0 (spl s 512).toArray (by rfl) (by rfl) TH.out (space_size' _) (spl_one _ _) ?_) | (refine wpList_store_mid rfl 43 (.tmp 4) (.tmp 18) (by rfl) w3.heap.size 0 (spl s 512).toArray (by rfl) (by rfl) TH.out (space_size' _) (spl_one _ _) ?_) | (refine wpList_store_mid rfl 43 (.tmp 4) (.tmp 19) (by rfl) w3.heap.size 0 (spl s 512).toArray (by rfl) (by rfl) TH.out (space_size' _) (spl_one _ _) ?_) | (refine wpList_store_mid rfl 43 (.tmp 4) (.tmp 20) (by rfl) w3.heap.size 0 (spl s 512).toArray (by rfl) (by rfl) TH.out (space_size' _) (spl_one _ _) ?_) | (refine wpList_store_mid rfl 43 (.tmp 4) (.tmp 21) (by rfl) w3.heap.size 0 (spl s 512).toArray (by rfl) (by rfl) TH.out (space_size' _) (spl_one _ _) ?_) | (refine wpList_store_mid rfl 43 (.tmp 4) (.tmp 22) (by rfl) w3.heap.size 0 (spl s 512).toArray (by rfl) (by rfl) TH.out (space_size' _) (spl_one _ _) ?_) | (refine wpList_store_mid rfl 43 (.tmp 4) (.tmp 23) (by rfl) w3.heap.size 0 (spl s 512).toArray (by rfl) (by rfl) TH.out (space_size' _) (spl_one _ _) ?_) | (refine wpList_store_mid rfl 43 (.tmp 4) (.tmp 24) (by rfl) w3.heap.size 0 (spl s 512).toArray (by rfl) (by rfl) TH.out (space_size' _) (spl_one _ _) ?_) | (refine wpList_store_mid rfl 43 (.tmp 4) (.tmp 25) (by rfl) w3.heap.size 0 (spl s 512).toArray (by rfl) (by rfl) TH.out (space_size' _) (spl_one _ _) ?_) | (refine wpList_store_mid rfl 43 (.tmp 4) (.tmp 26) (by rfl) w3.heap.size 0 (spl s 512).toArray (by rfl) (by rfl) TH.out (space_size' _) (spl_one _ _) ?_))
  generalize hq : w3.heap.size = sb at *
  clear hq TH
  generalize World.setCells _ _ _ _ = W1 at *
  refine (CG.out _ _ KX.out).mono ?_
  rintro e w4 ⟨vg, rfl, ⟨Ag, cg, rfl, hg⟩, hb⟩
  have SP : Hid (SpIn w4 sb s) := Lib.hid (Whole.below SP.out hb (Whole.lt SP.out))
  have B := Lib.hid (below_then B.out hb (Nat.le_refl _))
  have KX := Lib.hid (KX.out.still hb)
  have KG := Lib.hid hg
  clear hb CG hg
  generalize hN : gs.length = ng at *
  have HN := Lib.hid hN
  clear hN
  go_wp2_with fail
  have E0 : Hid (AllAt gs w4 496 (.int .i64 0) (.int .i64 0) (.int .i64 16) w4) := Lib.hid ⟨0, 16, 0, by omega, by omega, by omega, rfl, by simp [mostL], rfl, Lib.hid (Begun.first HP.out.good), rfl⟩
  go_loopg [6, 7, 8, 9] 496 (fun g s6 s7 s8 _ wr => AllAt gs w4 g s6 s7 s8 wr)
  case atStart => exact E0.out
  case round =>
    obtain ⟨k, m, dq, hm0, hm1, hgm, rfl, rfl, rfl, HB, rfl⟩ := hrel
    by_cases hlt : m < 512
    · have hz1 : (m : Int) < 512 := by omega
      have hz0 : (0 : Int) ≤ (m : Int) := by omega
      cases hs : s m with
      | some x =>
        have HB2 := Lib.hid (HB.out.pass HP.out.good (HP.out.mapped hm0 hlt hs))
        obtain ⟨d0, d1, d2, d3, d4⟩ := SP.out.some hlt hs
        clear hs HB
        go_wp2_with fail
        go_roundg (512 - (m + 1))
        case measure => omega
        case rel => exact ⟨k, m + 1, dq, by omega, by omega, by omega, rfl, rfl, by go_num, HB2, rfl⟩
      | none =>
        obtain ⟨⟨d0, d1, d2, d3, d4⟩, fz⟩ := SP.out.five hlt hs
        by_cases h16 : m = 16
        · obtain ⟨g, hg1, he1⟩ := HP.out.start hm0 hlt hs (.inl h16)
          have hv1 : ¬ (16 : Int) < (m : Int) := by omega
          have hv2 : decide ((16 : Int) < (m : Int)) = false := decide_eq_false hv1
          have hv3 : ¬ 16 < m := by omega
          have hv4 : decide (16 < m) = false := decide_eq_false hv3
          clear hs h16
          obtain ⟨hk, hks⟩ := HB.out.here HP.out.good HP.out.apart hg1 he1
          have HB2 := Lib.hid (HB.out.take HP.out.good HP.out.apart hk hks)
          have HT := Lib.hid (most_take HP.out.good hk)
          have hgk := HP.out.good gs[k] (List.getElem_mem hk)
          have HON : Hid (∀ q : Nat, m ≤ q → 4096 * (q : Int) < gs[k].e → q < 512 ∧ s q = none) := Lib.hid (fun q h1 h2 => HP.out.on (List.getElem_mem hk) (by omega) h2)
          have HOV : Hid (∀ q : Nat, 4096 * (q : Int) = gs[k].e → q < 512 → ∃ x, s q = some x) := Lib.hid (fun q h1 h2 => HP.out.over (List.getElem_mem hk) h1 h2)
          have hmb := most_take_bound HP.out.good k
          have hk3 := hgk.lt
          have hk4 := hgk.hi
          have hk5 := hgk.ep
          have hkn : k < ng := by rw [← HN.out]; exact hk
          have hkz : (k : Int) < (ng : Int) := by omega
          have hkz0 : (0 : Int) ≤ (k : Int) := by omega
          have hkz1 : ¬ (ng : Int) ≤ (k : Int) := by omega
          have hkz2 : decide ((ng : Int) ≤ (k : Int)) = false := decide_eq_false hkz1
          have hkz3 : ¬ ng ≤ k := by omega
          have hkz4 : decide (ng ≤ k) = false := decide_eq_false hkz3
          rcases KG.out with hn | ⟨b, rfl, hb, hcs⟩
          · rw [hn] at hk; simp at hk
          obtain ⟨c0, c1⟩ := hcs k hk
          generalize mostL (gs.take k) = T0 at *
          generalize gs[k].s = g0 at *
          generalize gs[k].e = g1 at *
          subst hks
          obtain ⟨ke, rfl⟩ : ∃ ke : Nat, g1 = 4096 * (ke : Int) := ⟨(g1 / 4096).toNat, by omega⟩
          have hke : m < ke := by omega
          have hke2 : ke ≤ 512 := by omega
          have HON : Hid (∀ q : Nat, m ≤ q → q < ke → q < 512 ∧ s q = none) := Lib.hid (fun q h1 h2 => HON.out q h1 (by omega))
          have HOV : Hid (ke < 512 → ∃ x, s ke = some x) := Lib.hid (fun h => HOV.out ke rfl h)
          have hkew : ((ke : Int) - (m : Int)) = ((ke - m : Nat) : Int) := by omega
          clear hgk hcs hk hg1 he1 HB hk3 hk4 hk5 hkew
          go_wp2_with fail
          have E1 : Hid (RunAt m ke w4 (ke - m) (.int .i64 m) (w4.drewN dq)) := Lib.hid ⟨m, dq, by omega, by omega, by omega, rfl, rfl⟩
          go_loopg [9] (ke - m) (fun g s9 wr => RunAt m ke w4 g s9 wr)
          case atStart => exact E1.out
          case round =>
            obtain ⟨p, dq2, hp0, hp1, hgp, rfl, rfl⟩ := hrel
            by_cases hpk : p < ke
            · obtain ⟨h5, hsp⟩ := HON.out p hp0 hpk
              obtain ⟨⟨f0, f1, f2, f3, f4⟩, _⟩ := SP.out.five h5 hsp
              have hp5 : (p : Int) < 512 := by omega
              have hp6 : (0 : Int) ≤ (p : Int) := by omega
              clear hsp
              go_wp2_with fail
              go_roundg (ke - (p + 1))
              case measure => omega
              case rel => exact ⟨p + 1, dq2, by omega, by omega, by omega, by go_num, rfl⟩
            · have hpe : ke = p := by omega
              subst hpe
              have hp6 : (0 : Int) ≤ (ke : Int) := by omega
              by_cases h512 : ke < 512
              · obtain ⟨x, hx⟩ := HOV.out h512
                obtain ⟨f0, f1, f2, f3, f4⟩ := SP.out.some h512 hx
                have hp5 : (ke : Int) < 512 := by omega
                clear hx
                go_wp2_with fail
                go_roundg (512 - (m + 1))
                case measure => omega
                case rel => exact ⟨k + 1, m + 1, _, by omega, by omega, by omega, by go_num, by rw [HT.out]; congr 1; omega, by go_num, HB2, rfl⟩
              · have hp5 : ¬ (ke : Int) < 512 := by omega
                go_wp2_with fail
                go_roundg (512 - (m + 1))
                case measure => omega
                case rel => exact ⟨k + 1, m + 1, _, by omega, by omega, by omega, by go_num, by rw [HT.out]; congr 1; omega, by go_num, HB2, rfl⟩
        · obtain ⟨j, hmj⟩ : ∃ j, m = j + 1 := ⟨m - 1, by omega⟩
          cases hj : s j with
          | none =>
            subst hmj
            obtain ⟨⟨e0, e1, e2, e3, e4⟩, _⟩ := SP.out.five (p := j) (by omega) hj
            have HB2 := Lib.hid (HB.out.pass HP.out.good (HP.out.run (by omega) hlt hj))
            have hw1 : IntKind.i64.wrap (j : Int) = (j : Int) := by rw [IntKind.wrap_i64]; omega
            have hw2 : ((j + 1 : Nat) : Int) - 1 = (j : Int) := by omega
            have hw3 : (j : Int) < 512 := by omega
            have hw4 : (0 : Int) ≤ (j : Int) := by omega
            have hw5 : (16 : Int) < ((j + 1 : Nat) : Int) := by omega
            have hw6 : decide ((16 : Int) < ((j + 1 : Nat) : Int)) = true := decide_eq_true hw5
            have hw7 : 16 < j + 1 := by omega
            clear hs hj HB
            go_wp2_with fail
            go_roundg (512 - (j + 1 + 1))
            case measure => omega
            case rel => exact ⟨k, j + 1 + 1, dq, by omega, by omega, by omega, rfl, rfl, by go_num, HB2, rfl⟩
          | some y =>
            obtain ⟨g, hg1, he1⟩ := HP.out.start hm0 hlt hs (.inr ⟨j, y, hmj, hj⟩)
            obtain ⟨e0, e1, e2, e3, e4⟩ := SP.out.some (p := j) (by omega) hj
            have hw1 : IntKind.i64.wrap (j : Int) = (j : Int) := by rw [IntKind.wrap_i64]; omega
            have hw2 : (m : Int) - 1 = (j : Int) := by omega
            have hw3 : (j : Int) < 512 := by omega
            have hw4 : (0 : Int) ≤ (j : Int) := by omega
            have hw5 : (16 : Int) < (m : Int) := by omega
            have hw6 : decide ((16 : Int) < (m : Int)) = true := decide_eq_true hw5
            have hw7 : 16 < m := by omega
            have hw8 : decide (16 < m) = true := decide_eq_true hw7
            clear hs hj h16 hmj
            obtain ⟨hk, hks⟩ := HB.out.here HP.out.good HP.out.apart hg1 he1
            have HB2 := Lib.hid (HB.out.take HP.out.good HP.out.apart hk hks)
            have HT := Lib.hid (most_take HP.out.good hk)
            have hgk := HP.out.good gs[k] (List.getElem_mem hk)
            have HON : Hid (∀ q : Nat, m ≤ q → 4096 * (q : Int) < gs[k].e → q < 512 ∧ s q = none) := Lib.hid (fun q h1 h2 => HP.out.on (List.getElem_mem hk) (by omega) h2)
            have HOV : Hid (∀ q : Nat, 4096 * (q : Int) = gs[k].e → q < 512 → ∃ x, s q = some x) := Lib.hid (fun q h1 h2 => HP.out.over (List.getElem_mem hk) h1 h2)
            have hmb := most_take_bound HP.out.good k
            have hk3 := hgk.lt
            have hk4 := hgk.hi
            have hk5 := hgk.ep
            have hkn : k < ng := by rw [← HN.out]; exact hk
            have hkz : (k : Int) < (ng : Int) := by omega
            have hkz0 : (0 : Int) ≤ (k : Int) := by omega
            have hkz1 : ¬ (ng : Int) ≤ (k : Int) := by omega
            have hkz2 : decide ((ng : Int) ≤ (k : Int)) = false := decide_eq_false hkz1
            have hkz3 : ¬ ng ≤ k := by omega
            have hkz4 : decide (ng ≤ k) = false := decide_eq_false hkz3
            rcases KG.out with hn | ⟨b, rfl, hb, hcs⟩
            · rw [hn] at hk; simp at hk
            obtain ⟨c0, c1⟩ := hcs k hk
            generalize mostL (gs.take k) = T0 at *
            generalize gs[k].s = g0 at *
            generalize gs[k].e = g1 at *
            subst hks
            obtain ⟨ke, rfl⟩ : ∃ ke : Nat, g1 = 4096 * (ke : Int) := ⟨(g1 / 4096).toNat, by omega⟩
            have hke : m < ke := by omega
            have hke2 : ke ≤ 512 := by omega
            have HON : Hid (∀ q : Nat, m ≤ q → q < ke → q < 512 ∧ s q = none) := Lib.hid (fun q h1 h2 => HON.out q h1 (by omega))
            have HOV : Hid (ke < 512 → ∃ x, s ke = some x) := Lib.hid (fun h => HOV.out ke rfl h)
            have hkew : ((ke : Int) - (m : Int)) = ((ke - m : Nat) : Int) := by omega
            clear hgk hcs hk hg1 he1 HB hk3 hk4 hk5 hkew
            go_wp2_with fail
            have E1 : Hid (RunAt m ke w4 (ke - m) (.int .i64 m) (w4.drewN dq)) := Lib.hid ⟨m, dq, by omega, by omega, by omega, rfl, rfl⟩
            go_loopg [9] (ke - m) (fun g s9 wr => RunAt m ke w4 g s9 wr)
            case atStart => exact E1.out
            case round =>
              obtain ⟨p, dq2, hp0, hp1, hgp, rfl, rfl⟩ := hrel
              by_cases hpk : p < ke
              · obtain ⟨h5, hsp⟩ := HON.out p hp0 hpk
                obtain ⟨⟨f0, f1, f2, f3, f4⟩, _⟩ := SP.out.five h5 hsp
                have hp5 : (p : Int) < 512 := by omega
                have hp6 : (0 : Int) ≤ (p : Int) := by omega
                clear hsp
                go_wp2_with fail
                go_roundg (ke - (p + 1))
                case measure => omega
                case rel => exact ⟨p + 1, dq2, by omega, by omega, by omega, by go_num, rfl⟩
              · have hpe : ke = p := by omega
                subst hpe
                have hp6 : (0 : Int) ≤ (ke : Int) := by omega
                by_cases h512 : ke < 512
                · obtain ⟨x, hx⟩ := HOV.out h512
                  obtain ⟨f0, f1, f2, f3, f4⟩ := SP.out.some h512 hx
                  have hp5 : (ke : Int) < 512 := by omega
                  clear hx
                  go_wp2_with fail
                  go_roundg (512 - (m + 1))
                  case measure => omega
                  case rel => exact ⟨k + 1, m + 1, _, by omega, by omega, by omega, by go_num, by rw [HT.out]; congr 1; omega, by go_num, HB2, rfl⟩
                · have hp5 : ¬ (ke : Int) < 512 := by omega
                  go_wp2_with fail
                  go_roundg (512 - (m + 1))
                  case measure => omega
                  case rel => exact ⟨k + 1, m + 1, _, by omega, by omega, by omega, by go_num, by rw [HT.out]; congr 1; omega, by go_num, HB2, rfl⟩
    · obtain rfl : m = 512 := by omega
      have hk := HB.out.all HP.out.good
      rw [HN.out] at hk
      subst hk
      have hT : gs.take k = gs := by rw [← HN.out]; exact List.take_length
      rw [hT]
      generalize mostL gs = T0 at *
      go_wp2_with fail
      refine (CL.out _ _ (KX.out.still (below_drewN (Below.refl _ _) _))).mono ?_
      rintro e w5 ⟨rfl, hb⟩
      have B := Lib.hid (below_then (below_drewN B.out dq) hb (Nat.le_refl _))
      clear hb CL
      go_wp2_with fail
      go_ret
      exact ⟨rfl, B.out⟩
theorem all_any (l : List Ar) (v : Value) (w : World) (hA : Holds w v l) :
    Calls Try.prog 5 #[v] w fun e w' => e = .returned (.bool true) ∧ Below w.heap.size w w' := by
  by_cases hn : l.length ≤ 20
  · exact all_few l v w hn hA
  · obtain ⟨A, c, rfl⟩ := hA.is
    exact all_many A l.length c w (by omega)
end Go.Proofs.Ytmppodobgkhojaa
