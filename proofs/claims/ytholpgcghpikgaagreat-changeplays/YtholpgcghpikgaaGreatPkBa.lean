/-
  Texts of our own, one behind the other (BkPure, BkSmall): what the laws' proofs rest on; each says at its head what it holds. No conditions.
-/
import Derived.Test.YtholpgcghpikgaaGreatPkLc
import Derived.Test.YtholpgcghpikgaaGreatPkM
import Derived.Test.YtholpgcghpikgaaGreatPkG
/-
  Layer 13: what a move of the break comes to, in plain words.
-/
namespace Go.Proofs.YtholpgcghpikgaaGreat
open Go.ChangeShapes Go.WideShapes Go.ChangeAt Go.RowKit Go.Shelf
set_option linter.unusedVariables false

/-- Whether a number is a break. -/
def bkIn (n : Int) : Prop := 65536 ≤ n ∧ n ≤ 327680
instance (n : Int) : Decidable (bkIn n) := inferInstanceAs (Decidable (_ ∧ _))
/-- Where the pages up to a break end. -/
def bkEnd (n : Int) : Int := (n + 4095) / 4096 * 4096
theorem bkEnd_num {n : Int} (h : bkIn n) : 65536 ≤ bkEnd n ∧ bkEnd n ≤ 327680 ∧ bkEnd n % 4096 = 0 := by
  obtain ⟨h1, h2⟩ := h
  unfold bkEnd; omega
/-- The break's pages. -/
def bkA (lo hi : Int) : Ar := ⟨lo, hi, 3, false, 0, 0⟩
theorem bkA_formed {lo hi : Int} (h1 : 65536 ≤ lo) (h2 : lo < hi) (h3 : hi ≤ 2097152) (h4 : lo % 4096 = 0) (h5 : hi % 4096 = 0) : Formed (bkA lo hi) := by
  refine (formed_iff _).2 ?_
  simp only [bkA]
  exact ⟨⟨h1, h2, h3, h4, h5⟩, by decide, by decide, by decide, fun _ => trivial, by omega⟩
theorem bkA_at (lo hi p : Int) : (bkA lo hi).at p = ⟨3, false, 0, 0⟩ := rfl
open Classical in
/-- The list, and the error, where the pages' ends are these. -/
noncomputable def bkM (X : List Ar) (lo hi : Int) : List Ar × Int :=
  if lo < hi then (if FitsAt X lo (hi - lo) then (putC X (bkA lo hi), 0) else ([], 5)) else (outsideL hi lo X, 0)
theorem bkM_cut {X : List Ar} {lo hi : Int} (h : ¬ lo < hi) : bkM X lo hi = (outsideL hi lo X, 0) := by unfold bkM; rw [if_neg h]
/-- What is wrong with what is asked. -/
def bwE1 (X : List Ar) (now : Int) : Int := if MayL X ∧ bkIn now then 0 else 1
def bwE2 (to' : Int) : Int := if bkIn to' then 0 else 4
def bwE (X : List Ar) (now to' : Int) : Int := firstE [bwE1 X now, bwE2 to']
noncomputable def bkW (X : List Ar) (now to' : Int) : List Ar × Int := if bwE X now to' = 0 then bkM X (bkEnd now) (bkEnd to') else ([], bwE X now to')
/-- Where the break goes. -/
def bkTo (now a : Int) : Int := firstE [a, now]
theorem bkTo_is (now a : Int) : bkTo now a = if a = 0 then now else a := by
  unfold bkTo firstE firstE firstE
  by_cases h : a = 0
  · rw [if_pos h, if_pos h]
    by_cases h0 : now = 0
    · rw [if_pos h0, h0]
    · rw [if_neg h0]
  · rw [if_neg h, if_neg h]
/-- What a move comes to: the list, the break, the error, the value. -/
noncomputable def bkR (X : List Ar) (now a : Int) : List Ar × Int × Int × Int :=
  if (bkW X now (bkTo now a)).2 = 0 then (if (bkW X now (bkTo now a)).1.length ≤ 24 then ((bkW X now (bkTo now a)).1, bkTo now a, 0, bkTo now a) else (X, now, 9, 0)) else (X, now, (bkW X now (bkTo now a)).2, 0)

theorem bwE_is (X : List Ar) (now to' : Int) : bwE X now to' = if MayL X ∧ bkIn now then (if bkIn to' then 0 else 4) else 1 := by
  unfold bwE bwE1 bwE2 firstE firstE firstE
  by_cases h : MayL X ∧ bkIn now
  · rw [if_pos h, if_pos rfl, if_pos h]
    by_cases h2 : bkIn to'
    · rw [if_pos h2, if_pos rfl]
    · rw [if_neg h2, if_neg (by decide)]
  · rw [if_neg h, if_neg (by decide), if_neg h]
theorem bwE_zero {X : List Ar} {now to' : Int} : bwE X now to' = 0 ↔ MayL X ∧ bkIn now ∧ bkIn to' := by
  rw [bwE_is]
  by_cases h : MayL X ∧ bkIn now
  · rw [if_pos h]
    by_cases h2 : bkIn to'
    · rw [if_pos h2]; exact ⟨fun _ => ⟨h.1, h.2, h2⟩, fun _ => rfl⟩
    · rw [if_neg h2]; exact ⟨fun k => (by cases k), fun k => absurd k.2.2 h2⟩
  · rw [if_neg h]; exact ⟨fun k => (by cases k), fun k => absurd ⟨k.1, k.2.1⟩ h⟩
theorem bwE_ne {X : List Ar} {now to' : Int} (h : bwE X now to' ≠ 0) : bkW X now to' = ([], bwE X now to') := by
  unfold bkW; rw [if_neg h]

/-! What follows. -/
theorem bkR_ok {X : List Ar} {now a : Int} (h : (bkR X now a).2.2.1 = 0) :
    MayL X ∧ bkIn now ∧ bkIn (bkTo now a) ∧ bkR X now a = ((bkM X (bkEnd now) (bkEnd (bkTo now a))).1, bkTo now a, 0, bkTo now a) ∧ (bkM X (bkEnd now) (bkEnd (bkTo now a))).2 = 0 ∧ (bkM X (bkEnd now) (bkEnd (bkTo now a))).1.length ≤ 24 := by
  unfold bkR at h ⊢
  by_cases h1 : (bkW X now (bkTo now a)).2 = 0
  · rw [if_pos h1] at h ⊢
    by_cases h2 : (bkW X now (bkTo now a)).1.length ≤ 24
    · rw [if_pos h2] at h ⊢
      by_cases h0 : bwE X now (bkTo now a) = 0
      · have hw : bkW X now (bkTo now a) = bkM X (bkEnd now) (bkEnd (bkTo now a)) := by unfold bkW; rw [if_pos h0]
        rw [hw] at h1 h2 ⊢
        obtain ⟨k1, k2, k3⟩ := bwE_zero.1 h0
        exact ⟨k1, k2, k3, rfl, h1, h2⟩
      · rw [bwE_ne h0] at h1; exact absurd h1 h0
    · rw [if_neg h2] at h; cases h
  · rw [if_neg h1] at h; exact absurd h h1
theorem bkR_err {X : List Ar} {now a : Int} (h : (bkR X now a).2.2.1 ≠ 0) : bkR X now a = (X, now, (bkR X now a).2.2.1, 0) := by
  unfold bkR at h ⊢
  by_cases h1 : (bkW X now (bkTo now a)).2 = 0
  · rw [if_pos h1] at h ⊢
    by_cases h2 : (bkW X now (bkTo now a)).1.length ≤ 24
    · rw [if_pos h2] at h; exact absurd rfl h
    · rw [if_neg h2]
  · rw [if_neg h1]
theorem fits_formed {X : List Ar} {now to' : Int} (h1 : bkIn now) (h2 : bkIn to') (hlt : bkEnd now < bkEnd to') : Formed (bkA (bkEnd now) (bkEnd to')) := by
  have k1 := bkEnd_num h1
  have k2 := bkEnd_num h2
  exact bkA_formed (by omega) hlt (by omega) (by omega) (by omega)
theorem bkM_right {X : List Ar} {now to' : Int} (hX : RightL X) (h1 : bkIn now) (h2 : bkIn to') : RightL (bkM X (bkEnd now) (bkEnd to')).1 := by
  unfold bkM
  by_cases hlt : bkEnd now < bkEnd to'
  · rw [if_pos hlt]
    by_cases hf : FitsAt X (bkEnd now) (bkEnd to' - bkEnd now)
    · rw [if_pos hf]; exact putC_right hX (fits_formed (X := X) h1 h2 hlt)
    · rw [if_neg hf]; trivial
  · rw [if_neg hlt]; exact outside_right _ _ hX
theorem bkR_right {X : List Ar} {now a : Int} (hX : RightL X) : RightL (bkR X now a).1 := by
  by_cases h : (bkR X now a).2.2.1 = 0
  · obtain ⟨k1, k2, k3, k4, _⟩ := bkR_ok h
    rw [k4]; exact bkM_right hX k2 k3
  · rw [bkR_err h]; exact hX
theorem bkR_may {X : List Ar} {now a : Int} (hX : MayL X) : MayL (bkR X now a).1 := by
  refine ⟨bkR_right hX.1, ?_⟩
  by_cases h : (bkR X now a).2.2.1 = 0
  · obtain ⟨k1, k2, k3, k4, _, k6⟩ := bkR_ok h
    rw [k4]; exact k6
  · rw [bkR_err h]; exact hX.2
theorem cut_none {X : List Ar} (hX : RightL X) {lo hi : Int} (h : hi ≤ lo) : outsideL lo hi X = X := by
  refine right_unique (outside_right _ _ hX) hX fun p => ?_
  rw [outside_tab _ _ hX, if_neg (fun k => by unfold Touch at k; omega)]
/-- A break that stays. -/
theorem bk_stay {Y : List Ar} {n a : Int} (hY : MayL Y) (hn : bkIn n) (ha : a = 0 ∨ a = n) : bkR Y n a = (Y, n, 0, n) := by
  have ht : bkTo n a = n := by
    rw [bkTo_is]
    rcases ha with rfl | rfl
    · rw [if_pos rfl]
    · by_cases h : a = 0
      · rw [if_pos h]
      · rw [if_neg h]
  have hw : bkW Y n n = (Y, 0) := by
    unfold bkW bkM
    rw [if_pos (bwE_zero.2 ⟨hY, hn, hn⟩), if_neg (Int.lt_irrefl _), cut_none hY.1 (Int.le_refl _)]
  unfold bkR
  rw [ht, hw, if_pos rfl, if_pos hY.2]
/-- What was moved stays where it is. -/
theorem bk_twice {X : List Ar} {now a b : Int} (h : (bkR X now a).2.2.1 = 0) (hb : b = 0 ∨ b = (bkR X now a).2.1) : bkR (bkR X now a).1 (bkR X now a).2.1 b = ((bkR X now a).1, (bkR X now a).2.1, 0, (bkR X now a).2.1) := by
  obtain ⟨k1, k2, k3, k4, k5, k6⟩ := bkR_ok h
  have hm := bkR_may (now := now) (a := a) k1
  rw [k4] at hm hb ⊢
  exact bk_stay hm k3 hb
/-- What was grown, and is shrunk again. -/
theorem bk_back {X : List Ar} {now a : Int} (h : (bkR X now a).2.2.1 = 0) (hlt : now < a) : (bkR X now a).2.1 = a ∧ (bkR X now a).2.2.2 = a ∧ bkR (bkR X now a).1 a now = (X, now, 0, now) := by
  obtain ⟨k1, k2, k3, k4, k5, k6⟩ := bkR_ok h
  have hna : a ≠ 0 := by have := k2.1; omega
  have ht : bkTo now a = a := by rw [bkTo_is, if_neg hna]
  have ht2 : bkTo a now = now := by rw [bkTo_is, if_neg (by have := k2.1; omega)]
  have hm := bkR_may (now := now) (a := a) k1
  rw [k4] at hm ⊢
  rw [ht] at k3 k5 k6 hm ⊢
  refine ⟨rfl, rfl, ?_⟩
  simp only at hm ⊢
  have hle : bkEnd now ≤ bkEnd a := by unfold bkEnd; omega
  have hX : outsideL (bkEnd now) (bkEnd a) (bkM X (bkEnd now) (bkEnd a)).1 = X := by
    unfold bkM at k5 ⊢
    by_cases hl : bkEnd now < bkEnd a
    · rw [if_pos hl] at k5 ⊢
      by_cases hf : FitsAt X (bkEnd now) (bkEnd a - bkEnd now)
      · rw [if_pos hf]
        have hfo := fits_formed (X := X) k2 k3 hl
        refine (undone_cut (a := bkA (bkEnd now) (bkEnd a)) k1.1 hfo).trans ?_
        refine right_unique (outside_right _ _ k1.1) k1.1 fun p => ?_
        rw [outside_tab _ _ k1.1]
        by_cases hp : Touch (bkA (bkEnd now) (bkEnd a)).s (bkA (bkEnd now) (bkEnd a)).e p
        · rw [if_pos hp]
          obtain ⟨f1, f2, f3, f4⟩ := (fits_pages k1.1 _ _).1 hf
          have hc := (touch_cov hfo p).1 hp
          unfold Cov bkA at hc
          simp only at hc
          exact (f4 p hc.1 (by omega)).2.2.symm
        · rw [if_neg hp]
      · rw [if_neg hf] at k5; cases k5
    · rw [if_neg hl]
      rw [cut_none k1.1 (by omega), cut_none k1.1 (by omega)]
  have hw : bkW (bkM X (bkEnd now) (bkEnd a)).1 a now = (X, 0) := by
    unfold bkW
    rw [if_pos (bwE_zero.2 ⟨hm, k3, k2⟩)]
    rw [bkM_cut (by omega), hX]
  unfold bkR
  rw [ht2, hw, if_pos rfl, if_pos k1.2]

/-! A break alone. -/
/-- The list of a break alone. -/
def bkL (n : Int) : List Ar := if bkEnd n = 65536 then [] else [bkA 65536 (bkEnd n)]
theorem bkL_right {n : Int} (h : bkIn n) : RightL (bkL n) := by
  unfold bkL
  have := bkEnd_num h
  by_cases he : bkEnd n = 65536
  · rw [if_pos he]; trivial
  · rw [if_neg he]; exact right_one (bkA_formed (by omega) (by omega) (by omega) (by omega) (by omega))
theorem bkL_may {n : Int} (h : bkIn n) : MayL (bkL n) := ⟨bkL_right h, by unfold bkL; split <;> simp⟩
theorem bkL_tab {n : Int} (h : bkIn n) (p : Int) : tab (bkL n) p = if 65536 ≤ 4096 * p ∧ 4096 * p < bkEnd n then some ⟨3, false, 0, 0⟩ else none := by
  unfold bkL
  have := bkEnd_num h
  by_cases he : bkEnd n = 65536
  · rw [if_pos he, if_neg (by omega)]; rfl
  · rw [if_neg he]
    show (if Cov (bkA 65536 (bkEnd n)) p then _ else _) = _
    by_cases hc : Cov (bkA 65536 (bkEnd n)) p
    · rw [if_pos hc, bkA_at, if_pos (by unfold Cov bkA at hc; exact hc)]
    · rw [if_neg hc, if_neg (by unfold Cov bkA at hc; exact hc)]; rfl
theorem bkL_moves {n a : Int} (hn : bkIn n) (ha : bkIn a) : bkM (bkL n) (bkEnd n) (bkEnd a) = (bkL a, 0) := by
  have e1 := bkEnd_num hn
  have e2 := bkEnd_num ha
  unfold bkM
  by_cases hl : bkEnd n < bkEnd a
  · rw [if_pos hl]
    have hf : FitsAt (bkL n) (bkEnd n) (bkEnd a - bkEnd n) := by
      refine (fits_pages (bkL_right hn) _ _).2 ⟨by omega, by omega, by omega, fun p h1 h2 => ⟨by omega, by omega, ?_⟩⟩
      rw [bkL_tab hn, if_neg (by omega)]
    have hfo := fits_formed (X := bkL n) hn ha hl
    rw [if_pos hf]
    refine Prod.ext ?_ rfl
    refine right_unique (putC_right (bkL_right hn) hfo) (bkL_right ha) fun p => ?_
    rw [(putC_is (bkL_right hn) hfo).2, bkL_tab hn, bkL_tab ha, bkA_at]
    by_cases hc : Cov (bkA (bkEnd n) (bkEnd a)) p
    · rw [if_pos hc]
      unfold Cov bkA at hc
      rw [if_pos (by simp only at hc; omega)]
    · rw [if_neg hc]
      unfold Cov bkA at hc
      simp only at hc
      by_cases hp : 65536 ≤ 4096 * p ∧ 4096 * p < bkEnd n
      · rw [if_pos hp, if_pos (by omega)]
      · rw [if_neg hp, if_neg (by omega)]
  · rw [if_neg hl]
    refine Prod.ext ?_ rfl
    refine right_unique (outside_right _ _ (bkL_right hn)) (bkL_right ha) fun p => ?_
    rw [outside_tab _ _ (bkL_right hn), bkL_tab hn, bkL_tab ha]
    by_cases ht : Touch (bkEnd a) (bkEnd n) p
    · rw [if_pos ht, if_neg (by unfold Touch at ht; omega)]
    · rw [if_neg ht]
      unfold Touch at ht
      by_cases hp : 65536 ≤ 4096 * p ∧ 4096 * p < bkEnd n
      · rw [if_pos hp, if_pos (by omega)]
      · rw [if_neg hp, if_neg (by omega)]
/-- A step of a break alone. -/
theorem bkL_step {n : Int} (hn : bkIn n) (a : Int) : bkR (bkL n) n a = if a = 0 then (bkL n, n, 0, n) else if bkIn a then (bkL a, a, 0, a) else (bkL n, n, 4, 0) := by
  by_cases h0 : a = 0
  · rw [if_pos h0]; exact bk_stay (bkL_may hn) hn (.inl h0)
  · rw [if_neg h0]
    have ht : bkTo n a = a := by rw [bkTo_is, if_neg h0]
    by_cases ha : bkIn a
    · rw [if_pos ha]
      have hw : bkW (bkL n) n a = (bkL a, 0) := by
        unfold bkW
        rw [if_pos (bwE_zero.2 ⟨bkL_may hn, hn, ha⟩), bkL_moves hn ha]
      unfold bkR
      rw [ht, hw, if_pos rfl, if_pos (bkL_may ha).2]
    · rw [if_neg ha]
      have he : bwE (bkL n) n a = 4 := by rw [bwE_is, if_pos ⟨bkL_may hn, hn⟩, if_neg ha]
      unfold bkR
      rw [ht, bwE_ne (by rw [he]; decide), he, if_neg (by decide)]
end Go.Proofs.YtholpgcghpikgaaGreat

/-
  Layer 13: the small calls: a contract for each.
-/
namespace Go.Proofs.YtholpgcghpikgaaGreat
open Go.ChangeShapes Go.WideShapes Go.ChangeAt Go.RowKit Go.Shelf
set_option linter.unusedVariables false

/-! Breaks. -/
theorem bkRight_any (n : Int) : Says 27 #[.int .i64 n] (.bool (decide (bkIn n))) := by
  intro w
  by_cases h1 : 65536 ≤ n
  · by_cases h2 : n ≤ 327680
    · rw [decide_eq_true (show bkIn n from ⟨h1, h2⟩)]
      go_enter Tryz.func27, Tryz.ntmps27
      go_wp2_with fail
      go_ret
      exact ⟨rfl, Below.refl _ _⟩
    · rw [decide_eq_false (fun k : bkIn n => h2 k.2)]
      go_enter Tryz.func27, Tryz.ntmps27
      go_wp2_with fail
      go_ret
      exact ⟨rfl, Below.refl _ _⟩
  · rw [decide_eq_false (fun k : bkIn n => h1 k.1)]
    go_enter Tryz.func27, Tryz.ntmps27
    go_wp2_with fail
    go_ret
    exact ⟨rfl, Below.refl _ _⟩
theorem bkError_any (n : Int) : Says 88 #[.int .i64 n] (.int .i64 (bwE2 n)) := by
  intro w
  have CR := Lib.hid (bkRight_any n w)
  unfold bwE2
  by_cases h : bkIn n
  · rw [if_pos h]
    rw [decide_eq_true h] at CR
    clear h
    go_enter Tryz.func88, Tryz.ntmps88
    go_wp2_with fail
    refine CR.out.mono ?_
    rintro e w1 ⟨rfl, hb⟩
    have B := Lib.hid hb
    clear hb CR
    go_wp2_with fail
    go_ret
    exact ⟨rfl, B.out⟩
  · rw [if_neg h]
    rw [decide_eq_false h] at CR
    clear h
    go_enter Tryz.func88, Tryz.ntmps88
    go_wp2_with fail
    refine CR.out.mono ?_
    rintro e w1 ⟨rfl, hb⟩
    have B := Lib.hid hb
    clear hb CR
    go_wp2_with fail
    go_ret
    exact ⟨rfl, B.out⟩
theorem bkEnd_any (n : Int) (h : bkIn n) : Says 89 #[.int .i64 n] (.int .i64 (bkEnd n)) := by
  intro w
  have h1 : 65536 ≤ n := h.1
  have h2 : n ≤ 327680 := h.2
  have e1 : IntKind.i64.wrap (n + 4096) = n + 4096 := by rw [IntKind.wrap_i64]; omega
  have e2 : IntKind.i64.wrap (n + 4096 - 1) = n + 4095 := by rw [IntKind.wrap_i64]; omega
  have e3 : (n + 4095).tdiv 4096 = (n + 4095) / 4096 := Int.tdiv_eq_ediv_of_nonneg (by omega)
  have e4 : IntKind.i64.wrap ((n + 4095) / 4096 * 4096) = bkEnd n := by unfold bkEnd; rw [IntKind.wrap_i64]; omega
  clear h
  go_enter Tryz.func89, Tryz.ntmps89
  go_wp2_with fail
  go_ret
  exact ⟨by unfold bkEnd; rfl, Below.refl _ _⟩

/-! The list, and the break, that came. -/
set_option maxHeartbeats 1000000 in
theorem bkSpace_c {w : World} {v : Value} {X : List Ar} (h : Holds w v X) (hl : X.length ≤ 10000) (now : Int) : Calls Tryz.prog 87 #[v, .int .i64 now] w fun e w' => e = .returned (.int .i64 (bwE1 X now)) ∧ Below w.heap.size w w' := by
  obtain ⟨A, c, rfl, hc, hA⟩ := h
  have CR := Lib.hid (right_any A X c (by omega) w hA)
  have CN := Lib.hid (bkRight_any now)
  unfold bwE1
  clear hA
  by_cases hm : X.length ≤ 24
  · have hz : ¬ (24 : Int) < (X.length : Int) := by omega
    by_cases hr : RightL X
    · rw [decide_eq_true hr] at CR
      by_cases hn : bkIn now
      · rw [if_pos (show MayL X ∧ bkIn now from ⟨⟨hr, hm⟩, hn⟩)]
        rw [decide_eq_true hn] at CN
        clear hr hn
        generalize X.length = n at *
        go_enter Tryz.func87, Tryz.ntmps87
        go_wp2_with fail
        refine CR.out.mono ?_
        rintro e w1 ⟨rfl, hb⟩
        have B := Lib.hid hb
        clear hb CR
        go_wp2_with fail
        refine (CN.out _).mono ?_
        rintro e w2 ⟨rfl, hb⟩
        have B := Lib.hid (below_then B.out hb (Nat.le_refl _))
        clear hb CN
        go_wp2_with fail
        go_ret
        exact ⟨rfl, B.out⟩
      · rw [if_neg (fun k : MayL X ∧ bkIn now => hn k.2)]
        rw [decide_eq_false hn] at CN
        clear hr hn
        generalize X.length = n at *
        go_enter Tryz.func87, Tryz.ntmps87
        go_wp2_with fail
        refine CR.out.mono ?_
        rintro e w1 ⟨rfl, hb⟩
        have B := Lib.hid hb
        clear hb CR
        go_wp2_with fail
        refine (CN.out _).mono ?_
        rintro e w2 ⟨rfl, hb⟩
        have B := Lib.hid (below_then B.out hb (Nat.le_refl _))
        clear hb CN
        go_wp2_with fail
        go_ret
        exact ⟨rfl, B.out⟩
    · rw [if_neg (fun k : MayL X ∧ bkIn now => hr k.1.1)]
      rw [decide_eq_false hr] at CR
      clear hr CN
      generalize X.length = n at *
      go_enter Tryz.func87, Tryz.ntmps87
      go_wp2_with fail
      refine CR.out.mono ?_
      rintro e w1 ⟨rfl, hb⟩
      have B := Lib.hid hb
      clear hb CR
      go_wp2_with fail
      go_ret
      exact ⟨rfl, B.out⟩
  · have hz : (24 : Int) < (X.length : Int) := by omega
    rw [if_neg (fun k : MayL X ∧ bkIn now => hm k.1.2)]
    clear CR CN
    generalize X.length = n at *
    go_enter Tryz.func87, Tryz.ntmps87
    go_wp2_with fail
    go_ret
    exact ⟨rfl, Below.refl _ _⟩

/-! The first of two numbers that isn't 0. -/
set_option maxHeartbeats 2000000 in
theorem or64_any (es : List Int) (hl : es.length ≤ 100) (g c : Nat) (w : World) (hc : ∀ i, i < es.length → w.cell? ⟨g, i, none⟩ = some (.int .i64 (nth es i))) :
    Calls Tryz.prog 47 #[.slice (some ⟨g, 0, none⟩) es.length c] w fun e w' => e = .returned (.int .i64 (firstE es)) ∧ w' = w := by
  have HC := Lib.hid hc
  have HF := Lib.hid (fun k h => firstE_drop (es := es) (k := k) h)
  have HE : Hid (firstE (es.drop es.length) = 0) := Lib.hid (by simp [firstE])
  clear hc
  generalize hn : es.length = n at *
  clear hn
  obtain ⟨F, hF⟩ : ∃ F : Nat → Int, F = fun k => firstE (es.drop k) := ⟨_, rfl⟩
  have e0 : firstE es = F 0 := by rw [hF]; simp
  have HF2 : Hid (∀ k, k < n → F k = if nth es k = 0 then F (k + 1) else nth es k) := Lib.hid (fun k h => by rw [hF]; exact HF.out k h)
  have HE2 : Hid (F n = 0) := Lib.hid (by rw [hF]; exact HE.out)
  rw [e0]
  clear e0 hF HF HE
  generalize hr : F 0 = r at *
  have HR := Lib.hid hr
  clear hr
  go_enter Tryz.func47, Tryz.ntmps47
  go_wp2_with fail
  go_loopg [5, 8] n (fun g _ s8 wr => ∃ k : Nat, k ≤ n ∧ n - k ≤ g ∧ s8 = .int .i64 k ∧ wr = w ∧ Hid (F k = r))
  case atStart => exact ⟨0, by omega, by omega, rfl, rfl, HR⟩
  case round =>
    obtain ⟨k, hk, hg, rfl, rfl, HK⟩ := hrel
    by_cases hlt : k < n
    · have hz1 : (k : Int) < (n : Int) := by omega
      have hz0 : (0 : Int) ≤ (k : Int) := by omega
      have c0 := HC.out k hlt
      have hs := HF2.out k hlt
      generalize nth es k = x at *
      by_cases hx : x = 0
      · rw [if_pos hx] at hs
        subst hx
        have HK2 : Hid (F (k + 1) = r) := Lib.hid (by rw [← hs]; exact HK.out)
        clear hs
        go_wp2_with fail
        go_roundg (n - (k + 1))
        case measure => omega
        case rel => exact ⟨k + 1, by omega, by omega, by go_num, rfl, HK2⟩
      · rw [if_neg hx] at hs
        have HK2 : Hid (x = r) := Lib.hid (by rw [← hs]; exact HK.out)
        have hx' : (x != 0) = true := by simpa using hx
        clear hs
        go_wp2_with fail
        go_ret
        exact ⟨by rw [HK2.out]; rfl, rfl⟩
    · obtain rfl : k = n := by omega
      have HK2 : Hid (0 = r) := Lib.hid (by rw [← HE2.out]; exact HK.out)
      go_wp2_with fail
      go_ret
      exact ⟨by rw [← HK2.out]; rfl, rfl⟩
theorem or64_two (W : World) (t : TypeId) (e0 e1 : Int) : Calls Tryz.prog 47 #[.slice (some ⟨W.heap.size, 0, none⟩) 2 2] (W.alloc (.cells #[.int .i64 e0, .int .i64 e1] t)) fun e w' =>
    e = .returned (.int .i64 (firstE [e0, e1])) ∧ w' = W.alloc (.cells #[.int .i64 e0, .int .i64 e1] t) := by
  have hw := Whole.new W t #[.int .i64 e0, .int .i64 e1]
  refine or64_any [e0, e1] (by simp) W.heap.size 2 _ fun i hi => ?_
  rw [hw.cell]
  simp at hi
  rcases (show i = 0 ∨ i = 1 by omega) with rfl | rfl <;> rfl
end Go.Proofs.YtholpgcghpikgaaGreat
