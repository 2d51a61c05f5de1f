/-
  Layer 7: the list of pages, page by page; areas that are put one by one; how many areas there are at most. No program is asked.
-/
import Derived.Test.YtmppodobgkhojaaListJoin
namespace Go.Proofs.Ytmppodobgkhojaa
set_option linter.unusedVariables false

/-- What a page of an area may have. -/
def Good (x : At) : Prop := 0 ≤ x.p ∧ x.p ≤ 7 ∧ 0 ≤ x.bk ∧ x.bk ≤ 9 ∧ 0 ≤ x.off ∧ x.off % 4096 = 0 ∧ (x.bk = 0 → x.off = 0) ∧ x.off + 4096 ≤ 1099511627776
/-- A page, as an area. -/
def pageAr (n : Nat) (x : At) : Ar := ⟨4096 * n, 4096 * (n + 1), x.p, x.sh, x.bk, x.off⟩
theorem page_formed {n : Nat} {x : At} (hx : Good x) (h0 : 16 ≤ n) (h1 : n < 512) : Formed (pageAr n x) := by
  unfold Good at hx
  refine (formed_iff _).2 ?_
  simp only [pageAr]; omega
theorem page_cov (n : Nat) (x : At) (p : Int) : Cov (pageAr n x) p ↔ p = n := by unfold Cov pageAr; simp only; omega
theorem page_at {n : Nat} {x : At} (hx : Good x) : (pageAr n x).at n = x := by
  unfold Good at hx
  obtain ⟨a, b, c, d⟩ := x
  unfold Ar.at pageAr
  simp only at *
  congr 1
  split <;> omega
/-- The pages ahead of one, in order. -/
def pagesTo (s : Nat → Option At) : Nat → List Ar
  | 0 => []
  | n + 1 => pagesTo s n ++ (if 16 ≤ n then (match s n with | some x => [pageAr n x] | none => []) else [])
/-- All that is mapped is as it may be. -/
def GoodS (s : Nat → Option At) : Prop := ∀ p x, s p = some x → Good x
section
variable {s : Nat → Option At}
theorem pages_mem {n : Nat} {a : Ar} (h : a ∈ pagesTo s n) : ∃ p x, p < n ∧ 16 ≤ p ∧ s p = some x ∧ a = pageAr p x := by
  induction n with
  | zero => cases h
  | succ n ih =>
    unfold pagesTo at h
    rcases List.mem_append.1 h with h | h
    · obtain ⟨p, x, h1, h2⟩ := ih h
      exact ⟨p, x, by omega, h2⟩
    · by_cases h16 : 16 ≤ n
      · rw [if_pos h16] at h
        cases hs : s n with
        | none => rw [hs] at h; cases h
        | some x =>
          rw [hs] at h
          exact ⟨n, x, by omega, h16, hs, by simpa using h⟩
      · rw [if_neg h16] at h; cases h
theorem mem_pages {n p : Nat} {x : At} (h1 : p < n) (h2 : 16 ≤ p) (h3 : s p = some x) : pageAr p x ∈ pagesTo s n := by
  induction n with
  | zero => omega
  | succ n ih =>
    unfold pagesTo
    by_cases hp : p < n
    · exact List.mem_append.2 (.inl (ih hp))
    · obtain rfl : p = n := by omega
      refine List.mem_append.2 (.inr ?_)
      rw [if_pos h2, h3]; simp
theorem pages_sorted (n : Nat) : Sorted (pagesTo s n) := by
  induction n with
  | zero => exact .nil
  | succ n ih =>
    unfold pagesTo
    refine List.pairwise_append.2 ⟨ih, ?_, fun a ha b hb => ?_⟩
    · by_cases h16 : 16 ≤ n
      · rw [if_pos h16]; cases s n <;> simp
      · rw [if_neg h16]; exact .nil
    · obtain ⟨p, x, h1, h2, h3, rfl⟩ := pages_mem ha
      by_cases h16 : 16 ≤ n
      · rw [if_pos h16] at hb
        cases hs : s n with
        | none => rw [hs] at hb; cases hb
        | some y =>
          rw [hs] at hb
          obtain rfl : b = pageAr n y := by simpa using hb
          simp only [pageAr]; omega
      · rw [if_neg h16] at hb; cases hb
theorem pages_formed (hg : GoodS s) {n : Nat} (hn : n ≤ 512) : ∀ a ∈ pagesTo s n, Formed a := fun a ha => by
  obtain ⟨p, x, h1, h2, h3, rfl⟩ := pages_mem ha
  exact page_formed (hg p x h3) h2 (by omega)
def listTo (s : Nat → Option At) (n : Nat) : List Ar := joinL (pagesTo s n)
theorem listTo_joined (hg : GoodS s) {n : Nat} (hn : n ≤ 512) : Joined (listTo s n) (pagesTo s n) := joined_all (pages_formed hg hn) (pages_sorted n)
theorem listTo_skip {n : Nat} (h : s n = none ∨ n < 16) : listTo s (n + 1) = listTo s n := by
  show joinL (pagesTo s (n + 1)) = joinL (pagesTo s n)
  rw [pagesTo]
  rcases h with h | h
  · rw [h]; simp
  · rw [if_neg (by omega), List.append_nil]
theorem listTo_next {n : Nat} {x : At} (h16 : 16 ≤ n) (hs : s n = some x) : listTo s (n + 1) = joinF (listTo s n) (pageAr n x) := by
  unfold listTo
  rw [pagesTo, if_pos h16, hs]
  simp [joinL]
theorem sorted_disj {l : List Ar} (h : Sorted l) : l.Pairwise Disj := h.imp (fun h => disj_of_le h)
theorem pages_tab (hg : GoodS s) {n p : Nat} (hp : p < n) (h16 : 16 ≤ p) : tab (pagesTo s n) p = s p := by
  cases hs : s p with
  | none =>
    refine tab_none fun a ha hc => ?_
    obtain ⟨q, x, h1, h2, h3, rfl⟩ := pages_mem ha
    have := (page_cov q x p).1 hc
    obtain rfl : p = q := by omega
    rw [hs] at h3; cases h3
  | some x =>
    rw [tab_of (sorted_disj (pages_sorted n)) (mem_pages hp h16 hs) ((page_cov p x p).2 rfl), page_at (hg p x hs)]
theorem pages_tab_out {n : Nat} {p : Int} (h : p < 16 ∨ (n : Int) ≤ p) : tab (pagesTo s n) p = none := tab_none fun a ha hc => by
  obtain ⟨q, x, h1, h2, h3, rfl⟩ := pages_mem ha
  have := (page_cov q x p).1 hc
  omega
/-- What a list's last area is joined by: what the page ahead has, and what this one has. -/
def AfterA (x y : At) : Prop := x.p = y.p ∧ x.sh = y.sh ∧ x.bk = y.bk ∧ y.off = if 0 < x.bk then x.off + 4096 else x.off
instance (x y : At) : Decidable (AfterA x y) := by unfold AfterA; infer_instance
theorem after_goes {z a : Ar} (hz : Formed z) (ha : Formed a) (he : z.e = a.s) : AfterA (z.at (a.s / 4096 - 1)) (a.at (a.s / 4096)) ↔ GoesA z a := by
  have nz := formed_num hz
  have na := formed_num ha
  unfold AfterA Ar.at
  simp only
  constructor
  · rintro ⟨h1, h2, h3, h4⟩
    refine ⟨hz, ha, he, h1, h2, h3, fun hne => ?_⟩
    rw [if_pos (by omega), if_pos (by omega), if_pos (by omega)] at h4
    omega
  · intro g
    refine ⟨g.p, g.sh, g.bk, ?_⟩
    have h3 := g.bk
    by_cases hb : 0 < z.bk
    · have := g.off (by omega)
      rw [if_pos (by omega), if_pos hb, if_pos hb]; omega
    · rw [if_neg (by omega), if_neg hb, if_neg hb]
/-- The last area of the list so far. -/
theorem last_page (hg : GoodS s) {n : Nat} (hn : n < 512) (h16 : 16 ≤ n) {z : Ar} (hl : (listTo s n).getLast? = some z) (he : z.e = 4096 * n) : ∃ m x, n = m + 1 ∧ s m = some x ∧ z.at (m : Int) = x := by
  have hj := listTo_joined hg (n := n) (by omega)
  have hzm : z ∈ listTo s n := by rw [last_split hl]; simp
  have nz := formed_num (right_formed hj.right z hzm)
  obtain ⟨m, rfl⟩ : ∃ m, n = m + 1 := ⟨n - 1, by omega⟩
  have hc : Cov z (m : Int) := by unfold Cov; omega
  have ht := tab_of (right_disj hj.right) hzm hc
  rw [hj.tab] at ht
  have h17 : 16 ≤ m := by unfold Cov at hc; omega
  rw [pages_tab hg (by omega) h17] at ht
  exact ⟨m, _, rfl, ht, rfl⟩
theorem listTo_len (n : Nat) : (listTo s n).length ≤ n := by
  have key : ∀ (r out : List Ar), (r.foldl joinF out).length ≤ out.length + r.length := by
    intro r
    induction r with
    | nil => intro out; simp
    | cons a r ih =>
      intro out
      have := ih (joinF out a)
      have h2 : (joinF out a).length ≤ out.length + 1 := by
        unfold joinF
        cases h : out.getLast? with
        | none => simp
        | some z =>
          simp only
          split
          · rw [List.length_append, List.length_dropLast]; simp
          · simp
      simp only [List.foldl_cons, List.length_cons]; omega
  have h1 : (listTo s n).length ≤ (pagesTo s n).length := by simpa [listTo, joinL] using key (pagesTo s n) []
  have h2 : (pagesTo s n).length ≤ n := by
    clear h1 key
    induction n with
    | zero => simp [pagesTo]
    | succ n ih =>
      unfold pagesTo
      rw [List.length_append]
      by_cases h16 : 16 ≤ n
      · rw [if_pos h16]; cases s n <;> simp <;> omega
      · rw [if_neg h16]; simp; omega
  omega
end

/-! Areas that are put one by one. -/
def putS (s : Nat → Option At) (a : Ar) : Nat → Option At := if Formed a then (fun p => if Cov a p then some (a.at p) else s p) else s
def madeS (l : List Ar) : Nat → Option At := l.foldl putS (fun _ => none)
theorem at_good {a : Ar} (h : Formed a) {p : Int} (hc : Cov a p) : Good (a.at p) := by
  have := formed_num h
  unfold Cov at hc
  unfold Good Ar.at
  simp only
  split <;> omega
theorem putS_good {s : Nat → Option At} (hs : GoodS s) (a : Ar) : GoodS (putS s a) := by
  intro p x hx
  unfold putS at hx
  by_cases hf : Formed a
  · rw [if_pos hf] at hx
    by_cases hc : Cov a p
    · simp only [if_pos hc] at hx; injection hx with hx; subst hx; exact at_good hf hc
    · simp only [if_neg hc] at hx; exact hs p x hx
  · rw [if_neg hf] at hx; exact hs p x hx
theorem madeS_snoc (l : List Ar) (a : Ar) : madeS (l ++ [a]) = putS (madeS l) a := by simp [madeS]
theorem madeS_good (l : List Ar) : GoodS (madeS l) := by
  have key : ∀ (l : List Ar) (s : Nat → Option At), GoodS s → GoodS (l.foldl putS s) := by
    intro l
    induction l with
    | nil => intro s h; exact h
    | cons a l ih => intro s h; exact ih _ (putS_good h a)
  exact key l _ (fun p x h => by cases h)
/-- The number of pages. -/
@[irreducible] def top : Nat := 512
theorem top_eq : top = 512 := by unfold top; rfl
/-- What Made answers. -/
def madeL (l : List Ar) : List Ar := listTo (madeS l) top
theorem madeL_right (l : List Ar) : RightL (madeL l) := (listTo_joined (s := madeS l) (n := top) (madeS_good l) (by rw [top_eq]; exact Nat.le_refl _)).right
theorem madeS_low (l : List Ar) (p : Nat) (h : p < 16 ∨ 512 ≤ p) : madeS l p = none := by
  have key : ∀ (l : List Ar) (s : Nat → Option At), s p = none → l.foldl putS s p = none := by
    intro l
    induction l with
    | nil => intro s h; exact h
    | cons a l ih =>
      intro s hs
      refine ih _ ?_
      unfold putS
      by_cases hf : Formed a
      · have := formed_num hf
        rw [if_pos hf]
        show (if Cov a p then some (a.at p) else s p) = none
        rw [if_neg (by unfold Cov; omega)]; exact hs
      · rw [if_neg hf]; exact hs
  exact key l _ rfl
theorem madeL_tab (l : List Ar) (p : Nat) : tab (madeL l) p = madeS l p := by
  unfold madeL
  rw [(listTo_joined (n := top) (madeS_good l) (by rw [top_eq]; exact Nat.le_refl _)).tab]
  have ht := top_eq
  by_cases h : p < 16 ∨ 512 ≤ p
  · rw [madeS_low l p h, pages_tab_out (by omega)]
  · exact pages_tab (madeS_good l) (by omega) (by omega)
theorem tab_neg {l : List Ar} (h : ∀ a ∈ l, Formed a) {p : Int} (hp : p < 0) : tab l p = none := tab_none fun a ha hc => by
  have := formed_num (h a ha); unfold Cov at hc; omega
/-- Right lists are the same if they have the same pages. -/
theorem right_same {l l' : List Ar} (h : RightL l) (h' : RightL l') (ht : ∀ p : Nat, tab l p = tab l' p) : l = l' := by
  refine right_unique h h' fun p => ?_
  rcases Int.lt_or_le p 0 with hp | hp
  · rw [tab_neg (right_formed h) hp, tab_neg (right_formed h') hp]
  · obtain ⟨n, rfl⟩ := Int.eq_ofNat_of_zero_le hp
    exact ht n
/-- A right list, put one by one, is itself. -/
theorem madeS_right {l : List Ar} (h : RightL l) (p : Nat) : madeS l p = tab l p := by
  have key : ∀ (l : List Ar) (s : Nat → Option At), (∀ a ∈ l, Formed a) → l.Pairwise Disj → l.foldl putS s p = (tab l p).or (s p) := by
    intro l
    induction l with
    | nil => intro s _ _; simp [tab]
    | cons a l ih =>
      intro s hf hd
      obtain ⟨d1, d2⟩ := List.pairwise_cons.1 hd
      rw [List.foldl_cons, ih _ (fun b hb => hf b (by simp [hb])) d2]
      have hfa := hf a (by simp)
      unfold putS
      rw [if_pos hfa]
      by_cases hc : Cov a p
      · have hn : tab l p = none := tab_none fun b hb hb' => d1 b hb p hc hb'
        rw [hn]
        simp [tab, hc]
      · simp [tab, hc]
  have := key l (fun _ => none) (right_formed h) (right_disj h)
  unfold madeS
  rw [this]; simp

/-! How many areas there are at most. -/
/-- Where an area must begin. -/
def Begins (s : Nat → Option At) (p : Nat) : Prop := ∃ y, s p = some y ∧ ∀ m x, p = m + 1 → s m = some x → ¬ AfterA x y
theorem at_after {a : Ar} (hf : Formed a) {m : Nat} (h1 : Cov a m) (h2 : Cov a (m + 1 : Nat)) : AfterA (a.at m) (a.at (m + 1 : Nat)) := by
  have := formed_num hf
  unfold Cov at h1
  unfold AfterA Ar.at
  refine ⟨rfl, rfl, rfl, ?_⟩
  simp only
  by_cases hb : 0 < a.bk
  · rw [if_pos hb, if_pos hb, if_pos hb]; push_cast; omega
  · rw [if_neg hb, if_neg hb, if_neg hb]
theorem begins_put {s : Nat → Option At} {a : Ar} (hf : Formed a) {p : Nat} (h : Begins (putS s a) p) : Begins s p ∨ (p : Int) = a.s / 4096 ∨ (p : Int) = a.e / 4096 := by
  have hn := formed_num hf
  obtain ⟨y, hy, hno⟩ := h
  unfold putS at hy hno
  rw [if_pos hf] at hy
  simp only [if_pos hf] at hno
  by_cases hc : Cov a p
  · rw [if_pos hc] at hy
    injection hy with hy
    by_cases hs : (p : Int) = a.s / 4096
    · exact .inr (.inl hs)
    · exfalso
      obtain ⟨m, rfl⟩ : ∃ m, p = m + 1 := ⟨p - 1, by unfold Cov at hc; omega⟩
      have hcm : Cov a (m : Int) := by unfold Cov at hc ⊢; omega
      refine hno m (a.at m) rfl (by rw [if_pos hcm]) ?_
      rw [← hy]; exact at_after hf hcm hc
  · rw [if_neg hc] at hy
    by_cases he : (p : Int) = a.e / 4096
    · exact .inr (.inr he)
    · left
      refine ⟨y, hy, fun m x hm hx => ?_⟩
      refine hno m x hm ?_
      rw [if_neg (by unfold Cov at hc ⊢; omega)]; exact hx
/-- The places where areas may begin. -/
theorem begins_made (l : List Ar) : ∃ B : List Int, B.length ≤ 2 * l.length - 1 ∧ ∀ p, Begins (madeS l) p → (p : Int) ∈ B := by
  have key : ∀ (l : List Ar) (s : Nat → Option At) (B : List Int), (∀ p, Begins s p → (p : Int) ∈ B) → ∃ B' : List Int, B'.length ≤ B.length + 2 * l.length ∧ ∀ p, Begins (l.foldl putS s) p → (p : Int) ∈ B' := by
    intro l
    induction l with
    | nil => intro s B h; exact ⟨B, by simp, h⟩
    | cons a l ih =>
      intro s B h
      by_cases hf : Formed a
      · obtain ⟨B', h1, h2⟩ := ih (putS s a) (a.s / 4096 :: a.e / 4096 :: B) (fun p hp => by
          rcases begins_put hf hp with h' | h' | h'
          · simp [h p h']
          · simp [h']
          · simp [h'])
        exact ⟨B', by simp only [List.length_cons] at *; omega, h2⟩
      · have e : putS s a = s := by unfold putS; rw [if_neg hf]
        obtain ⟨B', h1, h2⟩ := ih s B h
        exact ⟨B', by simp only [List.length_cons]; omega, by rw [List.foldl_cons, e]; exact h2⟩
  have first : ∀ (l : List Ar), ∃ B : List Int, B.length ≤ 2 * l.length - 1 ∧ ∀ p, Begins (l.foldl putS (fun _ => none)) p → (p : Int) ∈ B := by
    intro l
    induction l with
    | nil => exact ⟨[], by simp, fun p ⟨y, hy, _⟩ => by cases hy⟩
    | cons a l ih =>
      by_cases hf : Formed a
      · have hn := formed_num hf
        obtain ⟨B', h1, h2⟩ := key l (putS (fun _ => none) a) [a.s / 4096] (fun p hp => by
          rcases begins_put hf hp with ⟨y, hy, _⟩ | h' | h'
          · cases hy
          · simp [h']
          · exfalso
            obtain ⟨y, hy, _⟩ := hp
            unfold putS at hy
            rw [if_pos hf, if_neg (by unfold Cov; omega)] at hy
            cases hy)
        exact ⟨B', by simp only [List.length_cons, List.length_nil] at *; omega, h2⟩
      · have e : putS (fun _ => none) a = fun _ => none := by unfold putS; rw [if_neg hf]
        obtain ⟨B', h1, h2⟩ := ih
        exact ⟨B', by simp only [List.length_cons]; omega, by rw [List.foldl_cons, e]; exact h2⟩
  exact first l
theorem pigeon : ∀ (l m : List Int), l.Nodup → (∀ x ∈ l, x ∈ m) → l.length ≤ m.length
  | [], m, _, _ => Nat.zero_le _
  | x :: l, m, hn, hs => by
    obtain ⟨h1, h2⟩ := List.nodup_cons.1 hn
    have hx := hs x (by simp)
    have := pigeon l (m.erase x) h2 (fun y hy => by
      refine (List.mem_erase_of_ne (fun e => ?_)).2 (hs y (by simp [hy]))
      subst e; exact h1 hy)
    rw [List.length_erase_of_mem hx] at this
    have : 0 < m.length := List.length_pos_of_mem hx
    simp only [List.length_cons]; omega
/-- Where each area of a right list begins. -/
theorem after_begins : ∀ {l : List Ar} {z : Ar}, After' z l → ∀ (pre : List Ar), (∀ b ∈ pre, b.e ≤ z.e ∧ (b.e = z.e → b = z)) → ∀ a ∈ l, ∀ (m : Nat) (x : At), a.s = 4096 * ((m + 1 : Nat) : Int) → tab (pre ++ l) m = some x → (∀ b ∈ pre ++ l, Formed b) → ¬ AfterA x (a.at (m + 1 : Nat))
  | b :: l, z, h, pre, hpre, a, ha, m, x, hs, ht, hf => by
    have hbf := h.1.1
    have nb := formed_num hbf
    rcases List.mem_cons.1 ha with rfl | ha
    · obtain ⟨c, hc, hcc, rfl⟩ := tab_some ht
      have nc := formed_num (hf c hc)
      rcases List.mem_append.1 hc with hc | hc
      · have hce : c.e = a.s := by
          have := (hpre c hc).1; have := h.1.2.1; unfold Cov at hcc; omega
        have hcz : c = z := (hpre c hc).2 (by have := (hpre c hc).1; have := h.1.2.1; omega)
        subst hcz
        intro hA
        refine h.1.2.2 ((after_goes (hf c (by simp [hc])) hbf hce).1 ?_)
        rw [show a.s / 4096 - 1 = (m : Int) by omega, show a.s / 4096 = ((m + 1 : Nat) : Int) by omega]
        exact hA
      · exfalso
        rcases List.mem_cons.1 hc with rfl | hc
        · unfold Cov at hcc; omega
        · have := after_from h.2 c hc; unfold Cov at hcc; omega
    · have e : pre ++ b :: l = (pre ++ [b]) ++ l := by simp
      rw [e] at ht hf
      refine after_begins h.2 (pre ++ [b]) (fun c hc => ?_) a ha m x hs ht hf
      rcases List.mem_append.1 hc with hc | hc
      · have h1 := (hpre c hc).1
        have h2 := h.1.2.1
        exact ⟨by omega, fun he => by omega⟩
      · obtain rfl : c = b := by simpa using hc
        exact ⟨Int.le_refl _, fun _ => rfl⟩
theorem madeL_len (l : List Ar) (hl : l.length ≤ 20) : (madeL l).length ≤ 39 := by
  obtain ⟨B, hB, hb⟩ := begins_made l
  have hr := madeL_right l
  have hf := right_formed hr
  have hlen : ((madeL l).map (fun a => a.s / 4096)).length ≤ B.length := by
    refine pigeon _ _ ?_ ?_
    · have hp := after_pair hr
      rw [List.Nodup, List.pairwise_map]
      refine (List.Pairwise.and_mem.1 hp).imp ?_
      rintro a b ⟨ha, hb, hab⟩
      have := formed_num (hf a ha)
      have := formed_num (hf b hb)
      omega
    · intro x hx
      obtain ⟨a, ha, rfl⟩ := List.mem_map.1 hx
      have na := formed_num (hf a ha)
      obtain ⟨p, hp⟩ : ∃ p : Nat, a.s / 4096 = p := ⟨(a.s / 4096).toNat, by omega⟩
      rw [hp]
      refine hb p ⟨a.at p, ?_, fun m x hm hx => ?_⟩
      · rw [← madeL_tab]; exact tab_of (right_disj hr) ha (by unfold Cov; omega)
      · subst hm
        rw [← madeL_tab] at hx
        exact after_begins (l := madeL l) (z := Ar.nil) hr [] (fun b hb => by cases hb) a ha m x (by omega) (by rw [List.nil_append]; exact hx) (by rw [List.nil_append]; exact hf)
  rw [List.length_map] at hlen
  omega
end Go.Proofs.Ytmppodobgkhojaa
