/-
  Texts of our own, one behind the other (RbCut, RbHand, BdCut): what the laws' proofs rest on; each says at its head what it holds. No conditions.
-/
import Derived.Test.YtejkhnphplpkeaaPkZh
import Derived.Test.YtejkhnphplpkeaaPkWf
import Derived.Test.YtejkhnphplpkeaaPkZb
import Derived.Test.YtejkhnphplpkeaaPkZc
import Derived.Deep.AppendLies
/-
  Layer 18: the reference: pieces counted out in turns, and how many nodes.
-/
namespace Go.Proofs.Ytejkhnphplpkeaa
open Go.ChangeShapes Go.WideShapes Go.ChangeAt Go.RowKit
set_option linter.unusedVariables false

theorem gint_info : (Try.prog.info? 3).map (fun i => (i.zero, i.size, i.bytes)) = some (some (.int .i64 0), 1, 8) := by kernel_rfl
/-- A new row of noughts. -/
theorem make_ints (k : Nat) (hk : k ≤ 1000) (w : World) : (Instr.makeSlice 39 (.int .i64 (k : Int)) (.int .i64 (k : Int))).run Try.prog w = .ok (.slice (some ⟨w.heap.size, 0, none⟩) k k) (w.alloc (.cells (nums (List.replicate k 0)) 3)) := by
  have h := run_make_row' 39 3 _ 8 Try.underlying39 gint_info rfl .i64 .i64 k (by omega) (by omega) w
  rw [nums_made] at h
  exact h
/-- The pieces while they are counted out. -/
def cutTo (k t : Nat) : List Int := (List.range k).map fun (j : Nat) => ((turns k t j : Nat) : Int)
theorem cutTo_len (k t : Nat) : (cutTo k t).length = k := by simp [cutTo]
theorem cutTo_at {k t j : Nat} (h : j < k) : nth (cutTo k t) j = (turns k t j : Nat) := by
  unfold cutTo nth
  rw [List.getD_eq_getElem?_getD, List.getElem?_map, List.getElem?_range h]
  rfl
theorem cutTo_zero (k : Nat) : cutTo k 0 = List.replicate k 0 := by
  apply ext_nth
  · rw [cutTo_len]; simp
  · intro i hi
    rw [cutTo_len] at hi
    rw [cutTo_at hi, turns_zero, nth_zeros]
    rfl
theorem cutTo_step {k t : Nat} (hk : 0 < k) : (cutTo k t).set (t % k) (nth (cutTo k t) (t % k) + 1) = cutTo k (t + 1) := by
  have hm := Nat.mod_lt t hk
  apply ext_nth
  · rw [List.length_set, cutTo_len, cutTo_len]
  · intro i hi
    rw [List.length_set, cutTo_len] at hi
    rw [nth_set _ _ _ _ (by rw [cutTo_len]; exact hi), cutTo_at hm, cutTo_at hi, cutTo_at hi, turns_succ hk hi]
    by_cases h : i = t % k
    · rw [if_pos h, if_pos h.symm, h]; omega
    · rw [if_neg h, if_neg (fun e => h e.symm)]; omega
theorem turns_le (k t j : Nat) (h : t ≤ 64) : turns k t j ≤ 65 := by
  unfold turns
  have := Nat.div_le_self t k
  split <;> omega
/-- The pieces, as the chapter has them. -/
def cutL (n : Nat) : List Int := cutTo (pcs n) n
theorem cutL_len (n : Nat) : (cutL n).length = pcs n := cutTo_len _ _
theorem cutL_at {n i : Nat} (h : i < pcs n) : nth (cutL n) i = (pc n i : Nat) := cutTo_at h
/-- What Cut leaves. -/
def CutPost (w : World) (n : Int) (e : Ending) (w' : World) : Prop :=
  if 1 ≤ n ∧ n ≤ 64 then ∃ q, e = .returned (.slice (some ⟨q, 0, none⟩) (pcs n.toNat) (pcs n.toNat)) ∧ Whole w' q 3 (nums (cutL n.toNat)) ∧ w.heap.size ≤ q ∧ Below w.heap.size w w'
  else e = .returned (.slice none 0 0) ∧ w = w'
section
variable {w : World}
theorem ints_put {q : Nat} {l : List Int} (h : Whole w q 3 (nums l)) (i : Nat) (v : Int) : Whole (w.setCell ⟨q, i, none⟩ (.int .i64 v)) q 3 (nums (l.set i v)) := by
  rw [← nums_set]
  exact h.put i _
set_option maxHeartbeats 4000000 in
theorem refCut_c (n : Int) : Calls Try.prog 17 #[.int .i64 n] w (CutPost w n) := by
  obtain ⟨R, hR⟩ : ∃ R, CutPost w n = R := ⟨_, rfl⟩
  rw [hR]
  by_cases h1 : n < 1
  · have NO : Hid (R (.returned (.slice none 0 0)) w) := Lib.hid (by rw [← hR]; unfold CutPost; rw [if_neg (by omega)]; exact ⟨rfl, rfl⟩)
    clear hR
    go_enter Try.func17, Try.ntmps17
    go_wp2_with fail
    exact NO.out
  · by_cases h2 : 64 < n
    · have NO : Hid (R (.returned (.slice none 0 0)) w) := Lib.hid (by rw [← hR]; unfold CutPost; rw [if_neg (by omega)]; exact ⟨rfl, rfl⟩)
      clear hR
      go_enter Try.func17, Try.ntmps17
      go_wp2_with fail
      exact NO.out
    · obtain ⟨N, rfl⟩ : ∃ N : Nat, n = (N : Int) := ⟨n.toNat, by omega⟩
      have hN1 : 1 ≤ N := by omega
      have hN64 : N ≤ 64 := by omega
      have FIN : Hid (∀ W q, Whole W q 3 (nums (cutL N)) → w.heap.size ≤ q → Below w.heap.size w W → R (.returned (.slice (some ⟨q, 0, none⟩) (pcs N) (pcs N))) W) := Lib.hid (fun W q a b c => by
        rw [← hR]
        unfold CutPost
        rw [if_pos (by omega)]
        exact ⟨q, rfl, a, b, c⟩)
      have HP := Lib.hid (pcs_few hN1 hN64)
      have hx : 8 * (pcs N) ≥ N ∧ (pcs N = 1 ∨ 8 * (pcs N - 1) < N) := by unfold pcs; omega
      have HX := Lib.hid hx
      have W0 : Hid (Whole (w.alloc (.cells (nums (List.replicate (pcs N) 0)) 3)) w.heap.size 3 (nums (cutTo (pcs N) 0))) := Lib.hid (by rw [cutTo_zero]; exact Whole.new _ _ _)
      have HCL : Hid (cutL N = cutTo (pcs N) N) := Lib.hid rfl
      rw [HCL.out] at FIN
      clear hR hx HCL
      generalize pcs N = K at *
      have mk := make_ints K (by have := HP.out; omega)
      clear h1 h2
      go_enter Try.func17, Try.ntmps17
      go_wp2_with fail
      have hK8 : K ≤ 8 := HP.out.2
      go_loopw [3] (fun kv wr => ∃ k : Nat, kv = .int .i64 k ∧ 1 ≤ k ∧ k ≤ K ∧ w = wr) (fun kv _ => K - (intOf kv).toNat)
      case atStart => exact ⟨1, rfl, by omega, HP.out.1, rfl⟩
      case round =>
        obtain ⟨k, rfl, hk1, hkK, rfl⟩ := hrel
        have hk8 : (k : Int) ≤ 8 := by omega
        have hw0 : IntKind.i64.wrap (8 * (k : Int)) = 8 * (k : Int) := by rw [IntKind.wrap_i64]; omega
        by_cases hlt : 8 * k < N
        · have j1 : 8 * (k : Int) < (N : Int) := by omega
          have hkk : k < K := by have := HX.out; omega
          go_wp2_with fail
          go_roundw
          case rel => exact ⟨k + 1, by go_num, by omega, by omega, trivial⟩
          case measure => simp [intOf]; omega
        · have j1 : ¬ 8 * (k : Int) < (N : Int) := by omega
          have hkk : k = K := by have := HX.out; omega
          subst hkk
          have WB : Hid (Below w.heap.size w (w.alloc (.cells (nums (List.replicate k 0)) 3))) := Lib.hid (below_new _ _)
          clear HX
          go_upto_region 7 with (fail)
          generalize w.alloc (.cells (nums (List.replicate k 0)) 3) = wA at *
          have HQ : Hid (w.heap.size ≤ w.heap.size) := Lib.hid (Nat.le_refl _)
          obtain ⟨q, hq⟩ : ∃ q, w.heap.size = q := ⟨_, rfl⟩
          rw [hq] at W0 ⊢
          have HQ2 : Hid (w.heap.size ≤ q) := Lib.hid (Nat.le_of_eq hq)
          clear hq HQ mk
          go_wp2_with fail
          go_loopw [5] (fun iv wx => ∃ i : Nat, i ≤ N ∧ iv = .int .i64 i ∧ Whole wx q 3 (nums (cutTo k i)) ∧ Below w.heap.size w wx) (fun iv _ => N - (intOf iv).toNat)
          case atStart => exact ⟨0, by omega, rfl, W0.out, WB.out⟩
          case round =>
            obtain ⟨i, hi, rfl, hwh, hbl⟩ := hrel
            have hi8 : (i : Int) ≤ 64 := by omega
            by_cases hlt2 : i < N
            · have j2 : (i : Int) < (N : Int) := by omega
              have hm : (i : Int).tmod (k : Int) = ((i % k : Nat) : Int) := by rw [Int.tmod_eq_emod_of_nonneg (by omega)]; rfl
              have hmk := Nat.mod_lt i (show 0 < k by omega)
              have NX : Hid (Whole (wr.setCell ⟨q, i % k, none⟩ (.int .i64 (nth (cutTo k i) (i % k) + 1))) q 3 (nums (cutTo k (i + 1))) ∧ Below w.heap.size w (wr.setCell ⟨q, i % k, none⟩ (.int .i64 (nth (cutTo k i) (i % k) + 1)))) := Lib.hid ⟨by rw [← cutTo_step (by omega)]; exact ints_put hwh _ _, hbl.setCell (p := ⟨q, i % k, none⟩) HQ2.out _⟩
              have z := hwh.cell (i % k)
              rw [nums_at _ _ (by rw [cutTo_len]; exact hmk)] at z
              have f := hwh.frozen (i % k)
              have hv : nth (cutTo k i) (i % k) = ((turns k i (i % k) : Nat) : Int) := cutTo_at hmk
              have ht := turns_le k i (i % k) (by omega)
              rw [hv] at z NX
              have hw1 : IntKind.i64.wrap ((turns k i (i % k) : Nat) + 1 : Int) = (turns k i (i % k) : Nat) + 1 := by rw [IntKind.wrap_i64]; omega
              have hw2 : IntKind.i64.wrap ((i % k : Nat) : Int) = ((i % k : Nat) : Int) := by rw [IntKind.wrap_i64]; omega
              clear hwh hbl hv W0 WB
              generalize turns k i (i % k) = y at *
              generalize i % k = r at *
              have j3 : (r : Int) < (k : Int) := by omega
              have j4 : ((k : Int) == 0) = false := by simp; omega
              go_wp2_with fail
              go_roundw
              case rel => exact ⟨i + 1, by omega, by go_num, NX.1, NX.2⟩
              case measure => simp [intOf]; omega
            · have e : i = N := by omega
              subst e
              have j2 : ¬ (i : Int) < (i : Int) := by omega
              have FX := Lib.hid (FIN.out _ _ hwh HQ2.out hbl)
              clear FIN hwh hbl W0 WB
              go_wp2_with fail
              exact FX.out
/-- How many nodes. -/
def cntI (n : Int) : Int := if 1 ≤ n ∧ n ≤ 64 then (cntN n.toNat : Nat) else 0
set_option maxHeartbeats 1000000 in
theorem refCount_small (N : Nat) (h1 : 1 ≤ N) (h8 : N ≤ 8) : Calls Try.prog 18 #[.int .i64 (N : Int)] w fun e w' => e = .returned (.int .i64 1) ∧ Below w.heap.size w w' := by
  obtain ⟨R, hR⟩ : ∃ R : Ending → World → Prop, (fun e w' => e = .returned (.int .i64 (1)) ∧ Below w.heap.size w w') = R := ⟨_, rfl⟩
  rw [hR]
  have FIN : Hid (∀ W, Below w.heap.size w W → R (.returned (.int .i64 (1))) W) := Lib.hid (fun W hb => by rw [← hR]; exact ⟨rfl, hb⟩)
  clear hR
  have hp : pcs N = 1 := (pcs_one h1).2 h8
  have C := Lib.hid (refCut_c (w := w) (N : Int))
  go_enter Try.func18, Try.ntmps18
  go_wp2_with fail
  refine C.out.mono ?_
  intro e w1 hc
  unfold CutPost at hc
  rw [if_pos (by omega), Int.toNat_natCast, hp] at hc
  obtain ⟨q, rfl, _, _, hb⟩ := hc
  have FX := Lib.hid (FIN.out _ hb)
  clear hb C FIN
  go_wp2_with fail
  exact FX.out
set_option maxHeartbeats 1000000 in
theorem refCount_c (n : Int) : Calls Try.prog 18 #[.int .i64 n] w fun e w' => e = .returned (.int .i64 (cntI n)) ∧ Below w.heap.size w w' := by
  obtain ⟨R, hR⟩ : ∃ R : Ending → World → Prop, (fun e w' => e = .returned (.int .i64 (cntI n)) ∧ Below w.heap.size w w') = R := ⟨_, rfl⟩
  rw [hR]
  have FIN : Hid (∀ W, Below w.heap.size w W → R (.returned (.int .i64 (cntI n))) W) := Lib.hid (fun W hb => by rw [← hR]; exact ⟨rfl, hb⟩)
  clear hR
  by_cases h1 : n < 1
  · have e : cntI n = 0 := by unfold cntI; rw [if_neg (by omega)]
    rw [e] at FIN
    have FX := Lib.hid (FIN.out _ (Below.refl _ _))
    clear FIN
    go_enter Try.func18, Try.ntmps18
    go_wp2_with fail
    exact FX.out
  · by_cases h2 : 64 < n
    · have e : cntI n = 0 := by unfold cntI; rw [if_neg (by omega)]
      rw [e] at FIN
      have FX := Lib.hid (FIN.out _ (Below.refl _ _))
      clear FIN
      go_enter Try.func18, Try.ntmps18
      go_wp2_with fail
      exact FX.out
    · obtain ⟨N, rfl⟩ : ∃ N : Nat, n = (N : Int) := ⟨n.toNat, by omega⟩
      have hN1 : 1 ≤ N := by omega
      have hN64 : N ≤ 64 := by omega
      have e : cntI (N : Int) = (cntN N : Nat) := by unfold cntI; rw [if_pos (by omega), Int.toNat_natCast]
      rw [e] at FIN
      have hp := pcs_few hN1 hN64
      have C := Lib.hid (refCut_c (w := w) (N : Int))
      have HC : Hid (cntN N = if pcs N = 1 then 1 else pcs N + 1) := Lib.hid rfl
      have HP2 : Hid (∀ W, Calls Try.prog 18 #[.int .i64 (pcs N : Int)] W fun e w' => e = .returned (.int .i64 1) ∧ Below W.heap.size W w') := Lib.hid (fun W => refCount_small (pcs N) hp.1 hp.2)
      go_enter Try.func18, Try.ntmps18
      go_wp2_with fail
      refine C.out.mono ?_
      intro e w1 hc
      unfold CutPost at hc
      rw [if_pos (by omega), Int.toNat_natCast] at hc
      obtain ⟨q, rfl, _, _, hb⟩ := hc
      have HB := Lib.hid hb
      rw [HC.out] at FIN
      clear hb C HC
      generalize pcs N = K at *
      by_cases hk : K = 1
      · subst hk
        have FX := Lib.hid (FIN.out _ HB.out)
        clear FIN HP2
        go_wp2_with fail
        exact FX.out
      · have k1 : ((K : Int) == 1) = false := by simp; omega
        have CC := Lib.hid (HP2.out w1)
        rw [if_neg hk] at FIN
        have hw : IntKind.i64.wrap ((K : Int) + 1) = (K : Int) + 1 := by rw [IntKind.wrap_i64]; omega
        have hK8 : (K : Int) ≤ 8 := by omega
        clear HP2
        go_wp2_with fail
        refine CC.out.mono ?_
        rintro e w2 ⟨rfl, hb2⟩
        have FX := Lib.hid (FIN.out _ (below_then HB.out hb2 (Nat.le_refl _)))
        rw [show ((K + 1 : Nat) : Int) = (K : Int) + 1 by omega] at FX
        clear hb2 FIN CC
        go_wp2_with fail
        exact FX.out
end
end Go.Proofs.Ytejkhnphplpkeaa

/-
  Layer 18: the laws' handles, and entries of whatever sizes.
-/
namespace Go.Proofs.Ytejkhnphplpkeaa
open Go.ChangeShapes Go.WideShapes Go.ChangeAt Go.RowKit
set_option linter.unusedVariables false

/-- So many handles, from one on. -/
def handL (a n : Nat) : List Int := (List.range n).map fun (i : Nat) => 65536 + ((a : Int) + (i : Int))
theorem handL_len (a n : Nat) : (handL a n).length = n := by simp [handL]
theorem handL_at {a n i : Nat} (h : i < n) : nth (handL a n) i = 65536 + ((a : Int) + (i : Int)) := by
  unfold handL nth
  rw [List.getD_eq_getElem?_getD, List.getElem?_map, List.getElem?_range h]
  rfl
theorem handL_step (a n : Nat) : handL a n ++ [65536 + ((a : Int) + (n : Int))] = handL a (n + 1) := by
  unfold handL
  rw [List.range_succ, List.map_append]
  rfl
set_option maxHeartbeats 4000000 in
theorem handles_c (a n : Nat) (ha : a ≤ 1000) (hn : n ≤ 100) (w : World) : Calls Try.prog 11 #[.int .i64 (a : Int), .int .i64 (n : Int)] w fun e w' => ∃ v, e = .returned v ∧ Mw w.heap.size w' v (handL a n) ∧ Below w.heap.size w w' := by
  obtain ⟨R, hR⟩ : ∃ R : Ending → World → Prop, (fun e w' => ∃ v, e = .returned v ∧ Mw w.heap.size w' v (handL a n) ∧ Below w.heap.size w w') = R := ⟨_, rfl⟩
  rw [hR]
  have FIN : Hid (∀ v W, Mw w.heap.size W v (handL a n) → Below w.heap.size w W → R (.returned v) W) := Lib.hid (fun v W h1 h2 => by rw [← hR]; exact ⟨v, rfl, h1, h2⟩)
  clear hR
  obtain ⟨i0, hi0, hz0, hz1, hz2⟩ := wint_info'
  go_enter Try.func11, Try.ntmps11
  go_wp2_with fail
  go_loopw [5, 6] (fun ov iv wr => ∃ i : Nat, i ≤ n ∧ iv = .int .i64 i ∧ Mw w.heap.size wr ov (handL a i) ∧ Below w.heap.size w wr) (fun _ iv _ => n - (intOf iv).toNat)
  case atStart => exact ⟨0, by omega, rfl, Mw.nil _ _, Below.refl _ _⟩
  case round =>
    obtain ⟨i, hi, rfl, hm, hb⟩ := hrel
    obtain ⟨A, c, rfl⟩ := own_slice hm
    have hi8 : (i : Int) ≤ 100 := by omega
    by_cases hlt : i < n
    · have j1 : (i : Int) < (n : Int) := by omega
      have hw1 : IntKind.i64.wrap ((a : Int) + (i : Int)) = (a : Int) + (i : Int) := by rw [IntKind.wrap_i64]; omega
      have hw2 : IntKind.i64.wrap (65536 + ((a : Int) + (i : Int))) = 65536 + ((a : Int) + (i : Int)) := by rw [IntKind.wrap_i64]; omega
      have HM := Lib.hid hm
      have HB := Lib.hid hb
      have O := Lib.hid hm
      unfold Mw at O
      rw [handL_len] at O
      have hsz := hb.size
      have LT : Hid (∀ k, (Value.slice A i c).ownBlock = some k → w.heap.size ≤ k) := Lib.hid (fun k hk => (World.ownsRow.lt O.out k hk).1)
      rw [handL_len]
      clear hm hb FIN
      go_wp2_with (at_builtin; refine wpList_append_lies _ rfl (.tmp 12) (.tmp 17) _ rfl w.heap.size 2 i0 _ 1 8 Try.underlying27 hi0 hz0 hz1 hz2 rfl (by omega) _ i _ rfl (O.out.alloc _) ⟨wr.heap.size, 0, none⟩ 1 1 [.int .i64 (65536 + ((a : Int) + (i : Int)))] rfl rfl (World.news_of_block (cs := #[.int .i64 (65536 + ((a : Int) + (i : Int)))]) (t := 2) (fr := (0, 0)) (heap_alloc_new wr _)) (by simp [Value.oneCell']) (by omega) (by simp only [maxLen]; omega) (by omega) (by simp; omega) (wr.heap.size + 1) (by simp) ?_; intro gg cap w3 hown hgrow hat hlt3)
      have NX : Hid (Mw w.heap.size w3 (.slice (some ⟨gg, 0, none⟩) (i + 1) cap) (handL a (i + 1))) := Lib.hid (by
        unfold Mw
        rw [← handL_step, List.length_append, handL_len, List.map_append]
        exact hown)
      have NB : Hid (Below w.heap.size w w3) := Lib.hid ((HB.out.alloc hsz _).grown hgrow (by simp; omega) (fun k hk => LT.out k hk))
      clear hown hgrow hat hlt3 O HM HB
      go_roundw
      case rel => exact ⟨i + 1, by omega, by go_num, NX.out, NB.out⟩
      case measure => simp [intOf]; omega
    · have e : i = n := by omega
      subst e
      have j1 : ¬ (i : Int) < (i : Int) := by omega
      have FX := Lib.hid (FIN.out _ _ hm hb)
      clear FIN hm hb
      go_wp2_with fail
      exact FX.out
end Go.Proofs.Ytejkhnphplpkeaa

/-
  Layer 18: pieces, and how many nodes.
-/
namespace Go.Proofs.Ytejkhnphplpkeaa
open Go.ChangeShapes Go.WideShapes Go.ChangeAt Go.RowKit
set_option linter.unusedVariables false

/-- The pieces while they are told. -/
def cutP (K D M i : Nat) : List Int := (List.range K).map fun (j : Nat) => if j < i then ((D + (if j < M then 1 else 0) : Nat) : Int) else 0
theorem cutP_len (K D M i : Nat) : (cutP K D M i).length = K := by simp [cutP]
theorem cutP_at {K D M i j : Nat} (h : j < K) : nth (cutP K D M i) j = if j < i then ((D + (if j < M then 1 else 0) : Nat) : Int) else 0 := by
  unfold cutP nth
  rw [List.getD_eq_getElem?_getD, List.getElem?_map, List.getElem?_range h]
  rfl
theorem cutP_zero (K D M : Nat) : cutP K D M 0 = List.replicate K 0 := by
  apply ext_nth
  · rw [cutP_len]; simp
  · intro i hi
    rw [cutP_len] at hi
    rw [cutP_at hi, nth_zeros, if_neg (by omega)]
theorem cutP_step {K D M i : Nat} (hi : i < K) : (cutP K D M i).set i ((D + (if i < M then 1 else 0) : Nat) : Int) = cutP K D M (i + 1) := by
  apply ext_nth
  · rw [List.length_set, cutP_len, cutP_len]
  · intro j hj
    rw [List.length_set, cutP_len] at hj
    rw [nth_set _ _ _ _ (by rw [cutP_len]; exact hj), cutP_at hj, cutP_at hj]
    by_cases h : j = i
    · subst h; rw [if_pos rfl, if_pos (show j < j + 1 by omega)]
    · rw [if_neg h]
      by_cases h2 : j < i
      · rw [if_pos h2, if_pos (show j < i + 1 by omega)]
      · rw [if_neg h2, if_neg (show ¬ j < i + 1 by omega)]
theorem cutP_end {n : Nat} : cutP (pcs n) (n / pcs n) (n % pcs n) (pcs n) = cutL n := by
  apply ext_nth
  · rw [cutP_len, cutL_len]
  · intro i hi
    rw [cutP_len] at hi
    rw [cutP_at hi, cutL_at hi, if_pos hi]
    rfl
section
variable {w : World}
set_option maxHeartbeats 4000000 in
theorem cut18_c (n : Int) : Calls Try.prog 16 #[.int .i64 n] w (CutPost w n) := by
  obtain ⟨R, hR⟩ : ∃ R, CutPost w n = R := ⟨_, rfl⟩
  rw [hR]
  by_cases h1 : n < 1
  · have NO : Hid (R (.returned (.slice none 0 0)) w) := Lib.hid (by rw [← hR]; unfold CutPost; rw [if_neg (by omega)]; exact ⟨rfl, rfl⟩)
    clear hR
    go_enter Try.func16, Try.ntmps16
    go_wp2_with fail
    exact NO.out
  · by_cases h2 : 64 < n
    · have NO : Hid (R (.returned (.slice none 0 0)) w) := Lib.hid (by rw [← hR]; unfold CutPost; rw [if_neg (by omega)]; exact ⟨rfl, rfl⟩)
      clear hR
      go_enter Try.func16, Try.ntmps16
      go_wp2_with fail
      exact NO.out
    · obtain ⟨N, rfl⟩ : ∃ N : Nat, n = (N : Int) := ⟨n.toNat, by omega⟩
      have hN1 : 1 ≤ N := by omega
      have hN64 : N ≤ 64 := by omega
      have FIN : Hid (∀ W q, Whole W q 3 (nums (cutP (pcs N) (N / pcs N) (N % pcs N) (pcs N))) → w.heap.size ≤ q → Below w.heap.size w W → R (.returned (.slice (some ⟨q, 0, none⟩) (pcs N) (pcs N))) W) := Lib.hid (fun W q a b c => by
        rw [← hR]
        unfold CutPost
        rw [if_pos (by omega)]
        rw [cutP_end] at a
        exact ⟨q, rfl, a, b, c⟩)
      have hp := pcs_few hN1 hN64
      have W0 : Hid (Whole (w.alloc (.cells (nums (List.replicate (pcs N) 0)) 3)) w.heap.size 3 (nums (cutP (pcs N) (N / pcs N) (N % pcs N) 0))) := Lib.hid (by rw [cutP_zero]; exact Whole.new _ _ _)
      have hq1 : ((N : Int) + 7).tdiv 8 = (pcs N : Int) := by
        rw [Int.tdiv_eq_ediv_of_nonneg (by omega)]
        unfold pcs
        omega
      have hq0 : ((N : Int) + 8 - 1).tdiv 8 = (pcs N : Int) := by
        rw [show (N : Int) + 8 - 1 = (N : Int) + 7 by omega]; exact hq1
      have hd : (N : Int).tdiv (pcs N : Int) = ((N / pcs N : Nat) : Int) := by rw [Int.tdiv_eq_ediv_of_nonneg (by omega)]; rfl
      have hm : (N : Int).tmod (pcs N : Int) = ((N % pcs N : Nat) : Int) := by rw [Int.tmod_eq_emod_of_nonneg (by omega)]; rfl
      have hD : N / pcs N ≤ 64 := Nat.le_trans (Nat.div_le_self _ _) hN64
      have hM : N % pcs N < pcs N := Nat.mod_lt _ (by omega)
      generalize N / pcs N = D at *
      generalize N % pcs N = M at *
      generalize pcs N = K at *
      have mk := make_ints K (by omega) w
      have WB : Hid (Below w.heap.size w (w.alloc (.cells (nums (List.replicate K 0)) 3))) := Lib.hid (below_new _ _)
      have hw1 : IntKind.i64.wrap ((N : Int) + 8) = (N : Int) + 8 := by rw [IntKind.wrap_i64]; omega
      have hw2 : IntKind.i64.wrap ((N : Int) + 8 - 1) = (N : Int) + 8 - 1 := by rw [IntKind.wrap_i64]; omega
      have hw3 : IntKind.i64.wrap (K : Int) = (K : Int) := by rw [IntKind.wrap_i64]; omega
      have hw4 : IntKind.i64.wrap (D : Int) = (D : Int) := by rw [IntKind.wrap_i64]; omega
      have hw5 : IntKind.i64.wrap (M : Int) = (M : Int) := by rw [IntKind.wrap_i64]; omega
      have hw6 : IntKind.i64.wrap ((D : Int) + 1) = (D : Int) + 1 := by rw [IntKind.wrap_i64]; omega
      have j4 : ((K : Int) == 0) = false := by simp; omega
      clear hR
      go_enter Try.func16, Try.ntmps16
      go_upto_region 4 with (fail)
      go_wp2_with fail
      generalize w.alloc (.cells (nums (List.replicate K 0)) 3) = wA at *
      obtain ⟨q, hq⟩ : ∃ q, w.heap.size = q := ⟨_, rfl⟩
      rw [hq] at W0 ⊢
      have HQ2 : Hid (w.heap.size ≤ q) := Lib.hid (Nat.le_of_eq hq)
      clear hq mk
      go_loopw [5, 20] (fun _ iv wx => ∃ i : Nat, i ≤ K ∧ iv = .int .i64 i ∧ Whole wx q 3 (nums (cutP K D M i)) ∧ Below w.heap.size w wx) (fun _ iv _ => K - (intOf iv).toNat)
      case atStart => exact ⟨0, by omega, rfl, W0.out, WB.out⟩
      case round =>
        obtain ⟨i, hi, rfl, hwh, hbl⟩ := hrel
        by_cases hlt : i < K
        · have j1 : (i : Int) < (K : Int) := by omega
          have ci : i < (cutP K D M i).length := by rw [cutP_len]; exact hlt
          have z := hwh.cell i
          rw [nums_at _ _ ci] at z
          have f := hwh.frozen i
          have P1 := Lib.hid (ints_put hwh i (D : Int))
          have B1 := Lib.hid (hbl.setCell (p := ⟨q, i, none⟩) HQ2.out (.int .i64 (D : Int)))
          by_cases hM2 : i < M
          · have j2 : (i : Int) < (M : Int) := by omega
            have z2 := P1.out.cell i
            rw [nums_at _ _ (by rw [List.length_set]; exact ci), nth_set _ _ _ _ ci, if_pos rfl] at z2
            have f2 := P1.out.frozen i
            have NX : Hid (Whole ((wr.setCell ⟨q, i, none⟩ (.int .i64 (D : Int))).setCell ⟨q, i, none⟩ (.int .i64 ((D : Int) + 1))) q 3 (nums (cutP K D M (i + 1))) ∧ Below w.heap.size w ((wr.setCell ⟨q, i, none⟩ (.int .i64 (D : Int))).setCell ⟨q, i, none⟩ (.int .i64 ((D : Int) + 1)))) := Lib.hid ⟨by
              have e := ints_put P1.out i ((D : Int) + 1)
              rw [List.set_set, show (D : Int) + 1 = ((D + (if i < M then 1 else 0) : Nat) : Int) by rw [if_pos hM2]; omega, cutP_step hlt] at e
              rw [show (D : Int) + 1 = ((D + (if i < M then 1 else 0) : Nat) : Int) by rw [if_pos hM2]; omega]
              exact e, B1.out.setCell (p := ⟨q, i, none⟩) HQ2.out _⟩
            clear hwh hbl P1 B1 W0 WB
            go_wp2_with fail
            go_roundw
            case rel => exact ⟨i + 1, by omega, by go_num, NX.out.1, NX.out.2⟩
            case measure => simp [intOf]; omega
          · have j2 : ¬ (i : Int) < (M : Int) := by omega
            have NX : Hid (Whole (wr.setCell ⟨q, i, none⟩ (.int .i64 (D : Int))) q 3 (nums (cutP K D M (i + 1)))) := Lib.hid (by
              have e := P1.out
              rw [show (D : Int) = ((D + (if i < M then 1 else 0) : Nat) : Int) by rw [if_neg hM2]; omega, cutP_step hlt] at e
              rw [show (D : Int) = ((D + (if i < M then 1 else 0) : Nat) : Int) by rw [if_neg hM2]; omega]
              exact e)
            clear hwh hbl P1 W0 WB
            go_wp2_with fail
            go_roundw
            case rel => exact ⟨i + 1, by omega, by go_num, NX.out, B1.out⟩
            case measure => simp [intOf]; omega
        · have e : i = K := by omega
          subst e
          have j2 : ¬ (i : Int) < (i : Int) := by omega
          have FX := Lib.hid (FIN.out _ _ hwh HQ2.out hbl)
          clear FIN hwh hbl W0 WB
          go_wp2_with fail
          exact FX.out
set_option maxHeartbeats 4000000 in
theorem count18_c (n : Int) : Calls Try.prog 13 #[.int .i64 n] w fun e w' => e = .returned (.int .i64 (cntI n)) ∧ Below w.heap.size w w' := by
  obtain ⟨R, hR⟩ : ∃ R : Ending → World → Prop, (fun e w' => e = .returned (.int .i64 (cntI n)) ∧ Below w.heap.size w w') = R := ⟨_, rfl⟩
  rw [hR]
  have FIN : Hid (∀ W, Below w.heap.size w W → R (.returned (.int .i64 (cntI n))) W) := Lib.hid (fun W hb => by rw [← hR]; exact ⟨rfl, hb⟩)
  clear hR
  have C := Lib.hid (cut18_c (w := w) n)
  by_cases hn : 1 ≤ n ∧ n ≤ 64
  · obtain ⟨N, rfl⟩ : ∃ N : Nat, n = (N : Int) := ⟨n.toNat, by omega⟩
    have hN1 : 1 ≤ N := by omega
    have hN64 : N ≤ 64 := by omega
    have e : cntI (N : Int) = (cntN N : Nat) := by unfold cntI; rw [if_pos (by omega), Int.toNat_natCast]
    rw [e] at FIN
    have hp := pcs_few hN1 hN64
    have hc2 : cntN N = if pcs N = 1 then 1 else pcs N + 1 := rfl
    rw [hc2] at FIN
    have hp2 : pcs (pcs N) = 1 := pcs_twice hN1 hN64
    have C2 := Lib.hid (fun W => cut18_c (w := W) (pcs N : Int))
    clear e hc2
    go_enter Try.func13, Try.ntmps13
    go_wp2_with fail
    refine C.out.mono ?_
    intro e w1 hc
    unfold CutPost at hc
    rw [if_pos (by omega), Int.toNat_natCast] at hc
    obtain ⟨q, rfl, _, _, hb⟩ := hc
    have HB := Lib.hid hb
    clear hb C
    obtain ⟨K, hK⟩ : ∃ K, pcs N = K := ⟨_, rfl⟩
    rw [hK] at hp hp2 FIN C2 ⊢
    clear hK
    go_wp2_with fail
    go_loopw [3, 4] (fun lv cv wr => ∃ k c : Nat, lv = .int .i64 k ∧ cv = .int .i64 c ∧ 1 ≤ k ∧ k ≤ 8 ∧ (k = 1 ∧ c = (if K = 1 then 1 else K + 1) ∨ k = K ∧ c = K) ∧ Below w.heap.size w wr) (fun lv _ _ => (intOf lv).toNat)
    case atStart => exact ⟨K, K, rfl, rfl, hp.1, hp.2, Or.inr ⟨rfl, rfl⟩, HB.out⟩
    case round =>
      obtain ⟨k, c, rfl, rfl, hk1, hk8, hkc, hb⟩ := hrel
      by_cases hk : k = 1
      · subst hk
        have hc : c = if K = 1 then 1 else K + 1 := by
          rcases hkc with h | h
          · exact h.2
          · rw [if_pos (by omega)]; omega
        have FX := Lib.hid (FIN.out _ hb)
        rw [← hc] at FX
        have j1 : ¬ ((1 : Nat) : Int) > 1 := by omega
        clear hkc hb FIN C2 hc
        go_wp2_with fail
        exact FX.out
      · have hkK : k = K ∧ c = K := by
          rcases hkc with h | h
          · omega
          · exact h
        obtain ⟨e1, e3⟩ := hkK
        subst e1
        subst e3
        clear hkc
        have j1 : (c : Int) > 1 := by omega
        have hw : IntKind.i64.wrap ((c : Int) + 1) = (c : Int) + 1 := by rw [IntKind.wrap_i64]; omega
        have HB2 := Lib.hid hb
        have CC := Lib.hid (C2.out wr)
        clear hb
        go_wp2_with fail
        refine CC.out.mono ?_
        intro e w2 hc
        unfold CutPost at hc
        rw [if_pos (by omega), Int.toNat_natCast, hp2] at hc
        obtain ⟨q2, rfl, _, _, hb2⟩ := hc
        have HB3 := Lib.hid (below_then HB2.out hb2 (Nat.le_refl _))
        clear hb2 CC C2 FIN
        go_wp2_with fail
        go_roundw
        case rel => exact ⟨1, c + 1, by go_num, by go_num, by omega, by omega, Or.inl ⟨rfl, by rw [if_neg hk]⟩, HB3.out⟩
        case measure => simp [intOf]; omega
  · have e : cntI n = 0 := by unfold cntI; rw [if_neg hn]
    rw [e] at FIN
    have FX := Lib.hid (FIN.out _ (Below.refl _ _))
    clear FIN
    go_enter Try.func13, Try.ntmps13
    go_wp2_with fail
    refine C.out.mono ?_
    intro e w1 hc
    unfold CutPost at hc
    rw [if_neg hn] at hc
    obtain ⟨rfl, rfl⟩ := hc
    clear C
    go_wp2_with fail
    go_loopw [3, 4] (fun lv cv wr => lv = .int .i64 0 ∧ cv = .int .i64 0 ∧ w = wr) (fun lv _ _ => (intOf lv).toNat)
    case atStart => exact ⟨rfl, rfl, rfl⟩
    case round =>
      obtain ⟨rfl, rfl, rfl⟩ := hrel
      go_wp2_with fail
      exact FX.out
end
end Go.Proofs.Ytejkhnphplpkeaa
