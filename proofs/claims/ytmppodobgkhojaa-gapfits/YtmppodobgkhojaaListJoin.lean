/-
  Layer 7: areas in order, joined in one pass; lists by pages; how many pages there are. No program is asked.
-/
import Derived.Test.YtmppodobgkhojaaListCut
namespace Go.Proofs.Ytmppodobgkhojaa
set_option linter.unusedVariables false

/-- One step of the pass. -/
def joinF (out : List Ar) (a : Ar) : List Ar :=
  match out.getLast? with
  | none => [a]
  | some z => if GoesA z a then out.dropLast ++ [{ z with e := a.e }] else out ++ [a]
def joinL (l : List Ar) : List Ar := l.foldl joinF []

/-- In order, apart. -/
def Sorted (l : List Ar) : Prop := l.Pairwise (fun a b => a.e ≤ b.s)

theorem last_split {out : List Ar} {z : Ar} (h : out.getLast? = some z) : out = out.dropLast ++ [z] := by
  obtain ⟨ne, e⟩ := List.getLast?_eq_some_iff.1 h
  subst e; simp
theorem goes_formed {z a : Ar} (h : GoesA z a) : Formed { z with e := a.e } := by
  have h1 := formed_num h.fa
  have h2 := formed_num h.fb
  have h3 := h.at'
  have h4 := h.bk
  have h5 := h.off
  refine (formed_iff _).2 ?_
  simp only
  refine ⟨⟨by omega, by omega, by omega, by omega, by omega⟩, ⟨by omega, by omega, by omega, by omega⟩, by omega, by omega, by omega, ?_⟩
  by_cases hb : z.bk = 0
  · have := h1.2.2.2.2.2.2.2.2.2.2.2.1 hb; omega
  · have := h5 hb; omega
theorem goes_cov {z a : Ar} (h : GoesA z a) (p : Int) : Cov { z with e := a.e } p ↔ Cov z p ∨ Cov a p := by
  have h1 := formed_num h.fa
  have h2 := formed_num h.fb
  have h3 := h.at'
  unfold Cov; simp only; omega
theorem at_end (z : Ar) (x p : Int) : ({ z with e := x } : Ar).at p = z.at p := rfl
theorem ok_end {q z : Ar} {x : Int} (h : Ok q z) (hf : Formed { z with e := x }) : Ok q { z with e := x } := by
  refine ⟨hf, h.2.1, fun g => h.2.2 ⟨g.fa, h.1, g.at', g.p, g.sh, g.bk, g.off⟩⟩
theorem tab_app (l l' : List Ar) (p : Int) : tab (l ++ l') p = (tab l p).or (tab l' p) := by
  induction l with
  | nil => simp [tab]
  | cons a l ih =>
    simp only [List.cons_append, tab]
    by_cases hc : Cov a p
    · rw [if_pos hc, if_pos hc]; rfl
    · rw [if_neg hc, if_neg hc, ih]
/-- What the pass keeps. -/
structure Joined (out pre : List Ar) : Prop where
  right : RightL out
  tab : ∀ p, tab out p = tab pre p
  upto : ∀ a : Ar, (∀ b ∈ pre, b.e ≤ a.s) → ∀ z ∈ out, z.e ≤ a.s
theorem joined_step {out pre : List Ar} {a : Ar} (h : Joined out pre) (ha : Formed a) (hs : ∀ b ∈ pre, b.e ≤ a.s) : Joined (joinF out a) (pre ++ [a]) := by
  have hup := h.upto a hs
  have na := formed_num ha
  unfold joinF
  cases hl : out.getLast? with
  | none =>
    obtain rfl : out = [] := List.getLast?_eq_none_iff.1 hl
    refine ⟨⟨ok_nil ha, trivial⟩, fun p => ?_, fun b hb z hz => ?_⟩
    · rw [tab_app, ← h.tab]; rfl
    · obtain rfl : z = a := by simpa using hz
      exact hb z (by simp)
  | some z =>
    have ho := last_split hl
    have hr := h.right
    unfold RightL at hr
    rw [ho, after_app] at hr
    have hzm : z ∈ out := by rw [ho]; simp
    by_cases hg : GoesA z a
    · simp only [if_pos hg]
      have hf := goes_formed hg
      have hR : RightL (out.dropLast ++ [{ z with e := a.e }]) := after_app.2 ⟨hr.1, ok_end hr.2.1 hf, trivial⟩
      refine ⟨hR, fun p => ?_, fun b hb x hx => ?_⟩
      · rw [tab_app pre, ← h.tab, ho]
        simp only [List.dropLast_concat]
        rw [tab_app, tab_app]
        simp only [tab]
        by_cases hz : Cov z p
        · rw [if_pos ((goes_cov hg p).2 (.inl hz)), if_pos hz, at_end]
          cases tab out.dropLast p <;> simp
        · by_cases hc : Cov a p
          · rw [if_pos ((goes_cov hg p).2 (.inr hc)), if_pos hc, if_neg hz, at_end, goes_at hg]
            cases tab out.dropLast p <;> simp
          · rw [if_neg (fun h => ((goes_cov hg p).1 h).elim hz hc), if_neg hc, if_neg hz]
            cases tab out.dropLast p <;> simp
      · rcases List.mem_append.1 hx with hx | hx
        · have h1 : x ∈ out := (List.dropLast_sublist out).subset hx
          have := hup x h1
          have := hb a (by simp)
          omega
        · obtain rfl : x = { z with e := a.e } := by simpa using hx
          exact hb a (by simp)
    · simp only [if_neg hg]
      refine ⟨?_, fun p => ?_, fun b hb x hx => ?_⟩
      · unfold RightL
        refine after_app.2 ⟨h.right, ⟨ha, ?_, ?_⟩, trivial⟩
        · rw [List.getLastD_eq_getLast?, hl]; exact hup z hzm
        · rw [List.getLastD_eq_getLast?, hl]; exact hg
      · rw [tab_app, tab_app, h.tab]
      · rcases List.mem_append.1 hx with hx | hx
        · have := hup x hx
          have := hb a (by simp)
          omega
        · obtain rfl : x = a := by simpa using hx
          exact hb x (by simp)
theorem joined_all {l : List Ar} (hf : ∀ a ∈ l, Formed a) (hs : Sorted l) : Joined (joinL l) l := by
  have key : ∀ (r pre out : List Ar), Joined out pre → (∀ a ∈ r, Formed a) → Sorted (pre ++ r) → Joined (r.foldl joinF out) (pre ++ r) := by
    intro r
    induction r with
    | nil => intro pre out h _ _; simpa using h
    | cons a r ih =>
      intro pre out h hf hs
      have hp := List.pairwise_append.1 hs
      have := ih (pre ++ [a]) (joinF out a) (joined_step h (hf a (by simp)) (fun b hb => hp.2.2 b hb a (by simp))) (fun b hb => hf b (by simp [hb])) (by simpa using hs)
      simpa using this
  simpa [joinL] using key l [] [] ⟨trivial, fun _ => rfl, fun _ _ z hz => by cases hz⟩ hf (by simpa using hs)

/-- Areas in order of where they begin, apart, are in order. -/
theorem sorted_of {l : List Ar} (hf : ∀ a ∈ l, Formed a) (hd : l.Pairwise Disj) (hs : l.Pairwise (fun a b => a.s ≤ b.s)) : Sorted l := by
  have h := hd.and hs
  refine (List.Pairwise.and_mem.1 h).imp ?_
  rintro a b ⟨ha, hb, hd, hs⟩
  have na := formed_num (hf a ha)
  have nb := formed_num (hf b hb)
  rcases Int.lt_or_le b.s a.e with hlt | hle
  · exact absurd (cov_first (hf b hb)) (hd (b.s / 4096) (by unfold Cov; omega))
  · exact hle

/-- What is joined, whatever order it had: right, with the same pages. -/
theorem joined_perm {l l' : List Ar} (hf : ∀ a ∈ l, Formed a) (hd : l.Pairwise Disj) (hp : l.Perm l') (hs : l'.Pairwise (fun a b => a.s ≤ b.s)) : RightL (joinL l') ∧ ∀ p, tab (joinL l') p = tab l p := by
  have hf' : ∀ a ∈ l', Formed a := fun a ha => hf a (hp.mem_iff.2 ha)
  have hd' : l'.Pairwise Disj := hp.pairwise hd (fun h => h.symm)
  have h := joined_all hf' (sorted_of hf' hd' hs)
  exact ⟨h.right, fun p => (h.tab p).trans (tab_perm hd hp p).symm⟩

/-! What is put, and set. -/
theorem put_apart {l : List Ar} {a : Ar} (h : RightL l) (ha : Formed a) : (∀ b ∈ outsideL a.s a.e l ++ [a], Formed b) ∧ (outsideL a.s a.e l ++ [a]).Pairwise Disj ∧
    ∀ p, tab (outsideL a.s a.e l ++ [a]) p = if Cov a p then some (a.at p) else tab l p := by
  have hr := outside_right a.s a.e h
  have na := formed_num ha
  have ht : ∀ p, Touch a.s a.e p ↔ Cov a p := fun p => by unfold Touch Cov; omega
  refine ⟨fun b hb => ?_, ?_, fun p => ?_⟩
  · rcases List.mem_append.1 hb with hb | hb
    · exact right_formed hr b hb
    · obtain rfl : b = a := by simpa using hb
      exact ha
  · refine List.pairwise_append.2 ⟨right_disj hr, by simp, fun b hb c hc => ?_⟩
    obtain rfl : c = a := by simpa using hc
    obtain ⟨x, hx, hb⟩ := List.mem_flatMap.1 hb
    exact fun p hp hq => ((outA_is (right_formed h x hx) hb).2.2.2.1 p hp).2 ((ht p).2 hq)
  · rw [tab_app, outside_tab _ _ h]
    by_cases hc : Cov a p
    · rw [if_pos ((ht p).2 hc), if_pos hc]; simp [tab, hc]
    · rw [if_neg (fun h => hc ((ht p).1 h)), if_neg hc]; simp [tab, hc]
def Ar.prot (pr : Int) (a : Ar) : Ar := { a with p := pr }
theorem prot_formed {a : Ar} {pr : Int} (h : Formed a) (h0 : 0 ≤ pr) (h7 : pr ≤ 7) : Formed (a.prot pr) := by
  have := formed_num h
  refine (formed_iff _).2 ?_
  simp only [Ar.prot]; omega
def setL (lo hi pr : Int) (l : List Ar) : List Ar := outsideL lo hi l ++ (insideL lo hi l).map (Ar.prot pr)
theorem set_apart {l : List Ar} {lo hi pr : Int} (h : RightL l) (h0 : 0 ≤ pr) (h7 : pr ≤ 7) : (∀ b ∈ setL lo hi pr l, Formed b) ∧ (setL lo hi pr l).Pairwise Disj ∧
    ∀ p, tab (setL lo hi pr l) p = if Touch lo hi p then (tab l p).map (fun x => { x with p := pr }) else tab l p := by
  have hr := outside_right lo hi h
  have hf := right_formed h
  have inn : ∀ c ∈ (insideL lo hi l).map (Ar.prot pr), ∃ a ∈ l, PartA a lo hi ∧ c = (a.part lo hi).prot pr := fun c hc => by
    obtain ⟨x, hx, rfl⟩ := List.mem_map.1 hc
    obtain ⟨a, ha, hx⟩ := List.mem_flatMap.1 hx
    obtain ⟨k, rfl⟩ := partL_mem hx
    exact ⟨a, ha, k, rfl⟩
  have hD : (setL lo hi pr l).Pairwise Disj := by
    refine List.pairwise_append.2 ⟨right_disj hr, ?_, fun b hb c hc => ?_⟩
    · rw [List.pairwise_map]
      have hd := right_disj h
      clear hr hf inn h
      induction l with
      | nil => exact .nil
      | cons a l ih =>
        obtain ⟨d1, d2⟩ := List.pairwise_cons.1 hd
        refine List.pairwise_append.2 ⟨?_, ih d2, fun x hx y hy => ?_⟩
        · show List.Pairwise _ (partL a lo hi)
          unfold partL
          by_cases k : PartA a lo hi
          · rw [if_pos k]; simp
          · rw [if_neg k]; exact .nil
        · obtain ⟨k, rfl⟩ := partL_mem hx
          obtain ⟨b, hb, hy⟩ := List.mem_flatMap.1 hy
          obtain ⟨k', rfl⟩ := partL_mem hy
          exact fun p hp hq => d1 b hb p (((part_is k).2.2.2.1 p).1 hp).1 (((part_is k').2.2.2.1 p).1 hq).1
    · obtain ⟨a, ha, k, rfl⟩ := inn c hc
      obtain ⟨x, hx, hb⟩ := List.mem_flatMap.1 hb
      exact fun p hp hq => ((outA_is (hf x hx) hb).2.2.2.1 p hp).2 (((part_is k).2.2.2.1 p).1 hq).2
  refine ⟨fun b hb => ?_, hD, fun p => ?_⟩
  · rcases List.mem_append.1 hb with hb | hb
    · exact right_formed hr b hb
    · obtain ⟨a, ha, k, rfl⟩ := inn b hb
      exact prot_formed (part_is k).1 h0 h7
  · unfold setL
    rw [tab_app, outside_tab _ _ h]
    by_cases ht : Touch lo hi p
    · rw [if_pos ht, if_pos ht]
      cases hl : tab l p with
      | none =>
        rw [tab_none]; rfl
        intro c hc hp
        obtain ⟨a, ha, k, rfl⟩ := inn c hc
        exact tab_no hl a ha (((part_is k).2.2.2.1 p).1 hp).1
      | some x =>
        obtain ⟨a, ha, hc, rfl⟩ := tab_some hl
        have k := part_cov (hf a ha) hc ht
        have hm : (a.part lo hi).prot pr ∈ (insideL lo hi l).map (Ar.prot pr) := List.mem_map_of_mem (List.mem_flatMap.2 ⟨a, ha, by unfold partL; rw [if_pos k]; simp⟩)
        rw [tab_of (List.pairwise_append.1 hD).2.1 hm (((part_is k).2.2.2.1 p).2 ⟨hc, ht⟩)]
        show some (((a.part lo hi).prot pr).at p) = some _
        have e := (part_is k).2.2.2.2 p
        rw [← e]
        rfl
    · rw [if_neg ht, if_neg ht, tab_none (l := (insideL lo hi l).map (Ar.prot pr))]
      · cases tab l p <;> rfl
      · intro c hc hp
        obtain ⟨a, ha, k, rfl⟩ := inn c hc
        exact ht (((part_is k).2.2.2.1 p).1 hp).2

/-! How many bytes the areas have. -/
def sumL : List Ar → Int
  | [] => 0
  | a :: l => (a.e - a.s) + sumL l
/-- How many of the first n pages are there. -/
def cntT (T : Int → Option At) : Nat → Int
  | 0 => 0
  | n + 1 => cntT T n + if (T n).isSome then 1 else 0
theorem cnt_cons {a : Ar} {l : List Ar} (ha : Formed a) (hd : ∀ b ∈ l, Disj a b) : ∀ n : Nat, cntT (tab (a :: l)) n = (max (min (n : Int) (a.e / 4096)) (a.s / 4096) - a.s / 4096) + cntT (tab l) n
  | 0 => by have := formed_num ha; simp [cntT]; omega
  | n + 1 => by
    have na := formed_num ha
    simp only [cntT]
    rw [cnt_cons ha hd n]
    by_cases hc : Cov a n
    · have hn : tab l n = none := tab_none fun b hb hb' => hd b hb n hc hb'
      rw [hn]
      simp only [tab, if_pos hc]
      unfold Cov at hc
      simp; omega
    · simp only [tab, if_neg hc]
      unfold Cov at hc
      push_cast
      omega
theorem sum_cnt : ∀ {l : List Ar}, (∀ a ∈ l, Formed a) → l.Pairwise Disj → sumL l = 4096 * cntT (tab l) 512
  | [], _, _ => by
    have : ∀ n, cntT (tab []) n = 0 := fun n => by induction n with
      | zero => rfl
      | succ n ih => rw [cntT, ih]; rfl
    simp [sumL, this]
  | a :: l, hf, hd => by
    have na := formed_num (hf a (by simp))
    rw [cnt_cons (hf a (by simp)) (List.pairwise_cons.1 hd).1, sumL, sum_cnt (fun b hb => hf b (by simp [hb])) (List.pairwise_cons.1 hd).2]
    omega
theorem sum_same {l l' : List Ar} (hf : ∀ a ∈ l, Formed a) (hd : l.Pairwise Disj) (hf' : ∀ a ∈ l', Formed a) (hd' : l'.Pairwise Disj) (ht : ∀ p, tab l p = tab l' p) : sumL l = sumL l' := by
  rw [sum_cnt hf hd, sum_cnt hf' hd', show tab l = tab l' from funext ht]
end Go.Proofs.Ytmppodobgkhojaa
