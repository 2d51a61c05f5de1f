/-
  Layer 7: lists as the laws have them: what each call answers, as one list.
-/
import Derived.Test.YtmppodobgkhojaaListLaw
namespace Go.Proofs.Ytmppodobgkhojaa
open Go.ChangeShapes Go.WideShapes Go.ChangeAt Go.RowKit Go.Shelf
set_option linter.unusedVariables false

/-- A value that holds a list. -/
def Holds (w : World) (v : Value) (X : List Ar) : Prop := ∃ A c, v = .slice A X.length c ∧ X.length ≤ c ∧ Areas w.heap.size w A X
theorem Holds.still {w w' : World} {v : Value} {X : List Ar} (h : Holds w v X) (hb : Below w.heap.size w w') : Holds w' v X := by
  obtain ⟨A, c, rfl, hc, hA⟩ := h
  exact ⟨A, c, rfl, hc, (hA.below hb).mono hb.size⟩
theorem Mine.holds {B : Nat} {w : World} {v : Value} {X : List Ar} (h : Mine B w v X) : Holds w v X := by
  obtain ⟨A, c, rfl⟩ := h.is
  refine ⟨A, c, rfl, ?_, h.areas⟩
  rcases h.2 with ⟨hv, h0⟩ | ⟨g, cap, cur, hv, _, _, h3, _⟩
  · omega
  · injection hv with _ _ h4; omega
theorem Holds.nil (w : World) : Holds w (.slice none 0 0) [] := ⟨none, 0, rfl, Nat.le_refl _, .inl rfl⟩

open Classical in
/-- The list with an area put. -/
noncomputable def putC (X : List Ar) (a : Ar) : List Ar := if h : ∃ y, PutIn X a y then Classical.choose h else []
open Classical in
/-- The list with a range set. -/
noncomputable def setC (lo hi pr : Int) (X : List Ar) : List Ar := if h : ∃ y, SetIn lo hi pr X y then Classical.choose h else []
theorem putC_is {X : List Ar} {a : Ar} (hX : RightL X) (ha : Formed a) : PutIn X a (putC X a) := by
  have h : ∃ y, PutIn X a y := by
    obtain ⟨h1, h2, h3⟩ := put_apart hX ha
    have hs : ∃ l', (outsideL a.s a.e X ++ [a]).Perm l' ∧ l'.Pairwise (fun a b => a.s ≤ b.s) :=
      ⟨(outsideL a.s a.e X ++ [a]).mergeSort (fun a b => decide (a.s ≤ b.s)), (List.mergeSort_perm _ _).symm, by
        have := List.pairwise_mergeSort (le := fun a b : Ar => decide (a.s ≤ b.s)) (by intro a b c; simp; omega) (by intro a b; simp; omega) (outsideL a.s a.e X ++ [a])
        exact this.imp (fun h => by simpa using h)⟩
    obtain ⟨l', hp, hs⟩ := hs
    obtain ⟨j1, j2⟩ := joined_perm h1 h2 hp hs
    exact ⟨_, j1, fun p => (j2 p).trans (h3 p)⟩
  unfold putC
  rw [dif_pos h]
  exact Classical.choose_spec h
theorem putC_eq {X : List Ar} {a : Ar} {y : List Ar} (hX : RightL X) (ha : Formed a) (h : PutIn X a y) : y = putC X a := by
  have h2 := putC_is hX ha
  exact right_unique h.1 h2.1 fun p => by rw [h.2, h2.2]
theorem setC_is {X : List Ar} {lo hi pr : Int} (hX : RightL X) (h0 : 0 ≤ pr) (h7 : pr ≤ 7) : SetIn lo hi pr X (setC lo hi pr X) := by
  have h : ∃ y, SetIn lo hi pr X y := by
    obtain ⟨h1, h2, h3⟩ := set_apart (lo := lo) (hi := hi) hX h0 h7
    have hs : ∃ l', (setL lo hi pr X).Perm l' ∧ l'.Pairwise (fun a b => a.s ≤ b.s) :=
      ⟨(setL lo hi pr X).mergeSort (fun a b => decide (a.s ≤ b.s)), (List.mergeSort_perm _ _).symm, by
        have := List.pairwise_mergeSort (le := fun a b : Ar => decide (a.s ≤ b.s)) (by intro a b c; simp; omega) (by intro a b; simp; omega) (setL lo hi pr X)
        exact this.imp (fun h => by simpa using h)⟩
    obtain ⟨l', hp, hs⟩ := hs
    obtain ⟨j1, j2⟩ := joined_perm h1 h2 hp hs
    exact ⟨_, j1, fun p => (j2 p).trans (h3 p)⟩
  unfold setC
  rw [dif_pos h]
  exact Classical.choose_spec h
theorem setC_eq {X : List Ar} {lo hi pr : Int} {y : List Ar} (hX : RightL X) (h0 : 0 ≤ pr) (h7 : pr ≤ 7) (h : SetIn lo hi pr X y) : y = setC lo hi pr X := by
  have h2 := setC_is (lo := lo) (hi := hi) hX h0 h7
  exact right_unique h.1 h2.1 fun p => by rw [h.2, h2.2]

/-! What each call answers. -/
section
variable {w : World} {v v' : Value} {X : List Ar}
theorem made_c (h : Holds w v X) (hl : X.length ≤ 40) : Calls Try.prog 11 #[v] w fun e w' => ∃ v', e = .returned v' ∧ Holds w' v' (madeL X) ∧ Below w.heap.size w w' := by
  obtain ⟨A, c, rfl, hc, hA⟩ := h
  exact (made_any A c X hl hc w hA).mono fun e w' ⟨v', he, hm, hb⟩ => ⟨v', he, hm.holds, hb⟩
theorem put_c (h : Holds w v X) (hX : RightL X) {a : Ar} (ha : Formed a) : Calls Try.prog 17 #[v, a.v] w fun e w' => ∃ v', e = .returned v' ∧ Holds w' v' (putC X a) ∧ Below w.heap.size w w' := by
  obtain ⟨A, c, rfl, hc, hA⟩ := h
  exact (put_any A X c a hX ha w hA).mono fun e w' ⟨v', y, he, hm, hp, hb⟩ => by
    obtain rfl := putC_eq hX ha hp
    exact ⟨v', he, hm.holds, hb⟩
theorem pages_c (h : Holds w v X) (hX : RightL X) : Calls Try.prog 12 #[v] w fun e w' => e = .returned (.int .i64 (sumL X / 4096)) ∧ Below w.heap.size w w' := by
  obtain ⟨A, c, rfl, hc, hA⟩ := h
  exact pages_any A X c hX w hA
end

/-! What follows. -/
section
variable {X : List Ar} {a b : Ar}
theorem putC_right (hX : RightL X) (ha : Formed a) : RightL (putC X a) := (putC_is hX ha).1
theorem touch_cov (ha : Formed a) (p : Int) : Touch a.s a.e p ↔ Cov a p := by
  have := formed_num ha
  unfold Touch Cov; omega
theorem undone_cut (hX : RightL X) (ha : Formed a) : outsideL a.s a.e (putC X a) = outsideL a.s a.e X := by
  refine right_unique (outside_right _ _ (putC_right hX ha)) (outside_right _ _ hX) fun p => ?_
  rw [outside_tab _ _ (putC_right hX ha), outside_tab _ _ hX, (putC_is hX ha).2]
  by_cases h : Touch a.s a.e p
  · rw [if_pos h, if_pos h]
  · rw [if_neg h, if_neg h, if_neg (fun hc => h ((touch_cov ha p).2 hc))]
theorem undone_put (hX : RightL X) (ha : Formed a) : putC (outsideL a.s a.e X) a = putC X a := by
  have hC := outside_right a.s a.e hX
  refine right_unique (putC_right hC ha) (putC_right hX ha) fun p => ?_
  rw [(putC_is hC ha).2, (putC_is hX ha).2, outside_tab _ _ hX]
  by_cases h : Cov a p
  · rw [if_pos h, if_pos h]
  · rw [if_neg h, if_neg h, if_neg (fun ht => h ((touch_cov ha p).1 ht))]
theorem twice_put (hX : RightL X) (ha : Formed a) : putC (putC X a) a = putC X a := by
  have hP := putC_right hX ha
  refine right_unique (putC_right hP ha) hP fun p => ?_
  rw [(putC_is hP ha).2, (putC_is hX ha).2]
  by_cases h : Cov a p
  · rw [if_pos h, if_pos h]
  · rw [if_neg h, if_neg h]
theorem twice_cut (hX : RightL X) (lo hi : Int) : outsideL lo hi (outsideL lo hi X) = outsideL lo hi X := by
  have hC := outside_right lo hi hX
  refine right_unique (outside_right _ _ hC) hC fun p => ?_
  rw [outside_tab _ _ hC, outside_tab _ _ hX]
  by_cases h : Touch lo hi p
  · rw [if_pos h, if_pos h]
  · rw [if_neg h]
theorem setC_right (hX : RightL X) (lo hi : Int) {pr : Int} (h0 : 0 ≤ pr) (h7 : pr ≤ 7) : RightL (setC lo hi pr X) := (setC_is hX h0 h7).1
theorem twice_set (hX : RightL X) (lo hi : Int) {pr : Int} (h0 : 0 ≤ pr) (h7 : pr ≤ 7) : setC lo hi pr (setC lo hi pr X) = setC lo hi pr X := by
  have hS := setC_right hX lo hi h0 h7
  refine right_unique (setC_right hS lo hi h0 h7) hS fun p => ?_
  rw [(setC_is hS h0 h7).2, (setC_is hX h0 h7).2]
  by_cases h : Touch lo hi p
  · rw [if_pos h, if_pos h]
    cases tab X p <;> rfl
  · rw [if_neg h]
theorem apart_put (hX : RightL X) (ha : Formed a) (hb : Formed b) (hd : Disj a b) : putC (putC X a) b = putC (putC X b) a := by
  have hP := putC_right hX ha
  have hQ := putC_right hX hb
  refine right_unique (putC_right hP hb) (putC_right hQ ha) fun p => ?_
  rw [(putC_is hP hb).2, (putC_is hX ha).2, (putC_is hQ ha).2, (putC_is hX hb).2]
  by_cases h1 : Cov a p
  · rw [if_neg (hd p h1), if_pos h1, if_pos h1]
  · rw [if_neg h1, if_neg h1]
theorem apart_sum (ha : Formed a) (hb : Formed b) (hd : Disj a b) : sumL (putC (putC [] a) b) = (a.e - a.s) + (b.e - b.s) := by
  have hP := putC_right (X := []) trivial ha
  have hR := putC_right hP hb
  have h2 : (∀ x ∈ [a, b], Formed x) := fun x hx => by
    rcases List.mem_cons.1 hx with rfl | hx
    · exact ha
    · obtain rfl := List.mem_singleton.1 hx; exact hb
  have h3 : [a, b].Pairwise Disj := by simp [hd]
  rw [sum_same (right_formed hR) (right_disj hR) h2 h3 fun p => ?_]
  · simp [sumL]
  · rw [(putC_is hP hb).2, (putC_is (X := []) trivial ha).2]
    simp only [tab]
    by_cases h1 : Cov a p
    · rw [if_neg (hd p h1), if_pos h1, if_pos h1]
    · rw [if_neg h1, if_neg h1]
theorem disj_apart (ha : Formed a) (hb : Formed b) (h : ¬ (a.s < b.e ∧ b.s < a.e)) : Disj a b := fun p h1 h2 => by
  unfold Cov at h1 h2; omega
theorem puts_made (hX : RightL X) (ha : Formed a) : madeL (X ++ [a]) = putC X a := by
  refine right_same (madeL_right _) (putC_right hX ha) fun p => ?_
  rw [madeL_tab, madeS_snoc, (putC_is hX ha).2]
  unfold putS
  rw [if_pos ha]
  by_cases h : Cov a p
  · rw [if_pos h, if_pos h]
  · rw [if_neg h, if_neg h, madeS_right hX]
end
end Go.Proofs.Ytmppodobgkhojaa
