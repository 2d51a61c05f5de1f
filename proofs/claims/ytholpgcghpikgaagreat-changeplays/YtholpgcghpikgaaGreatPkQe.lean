/-
  Texts of our own, one behind the other (RmFacts): what the laws' proofs rest on; each says at its head what it holds. No conditions.
-/
import Derived.Test.YtholpgcghpikgaaGreatPkQa
/-
  Layer 12: what follows, without a program: areas that stay, that go and come back, what a remap's pages have.
-/
namespace Go.Proofs.YtholpgcghpikgaaGreat
set_option linter.unusedVariables false

theorem cov_one {X : List Ar} (hX : RightL X) {a b : Ar} (ha : a ∈ X) (hb : b ∈ X) {p : Int} (h1 : Cov a p) (h2 : Cov b p) : a = b := by
  have hd := right_disj hX
  obtain ⟨i, hi, rfl⟩ := List.getElem_of_mem ha
  obtain ⟨j, hj, rfl⟩ := List.getElem_of_mem hb
  rcases Nat.lt_trichotomy i j with h | h | h
  · exact absurd h2 (List.pairwise_iff_getElem.1 hd i j hi hj h p h1)
  · subst h; rfl
  · exact absurd h1 (List.pairwise_iff_getElem.1 hd j i hj hi h p h2)
theorem fn_is {X : List Ar} (hX : RightL X) {a : Ar} (ha : a ∈ X) {x : Int} (h1 : a.s ≤ x) (h2 : x < a.e) : fnO X x = some a := by
  unfold fnO
  rw [if_pos hX]
  have hf := right_formed hX a ha
  cases hn : findL x X with
  | none => exact absurd ⟨hf, h1, h2⟩ (find_no' hn a ha)
  | some b =>
    obtain ⟨hb, hh⟩ := find_is hn
    have hfb := right_formed hX b hb
    rw [cov_one hX hb ha ((has_cov hfb).1 hh) ((has_cov hf).1 ⟨hf, h1, h2⟩)]
theorem after_nogo : ∀ {z : Ar} {l : List Ar}, After' z l → l.Pairwise (fun a b => ¬ GoesA a b)
  | _, [], _ => .nil
  | _, [b], _ => by simp
  | _, b :: c :: l, h => by
    refine .cons (fun d hd hg => ?_) (after_nogo h.2)
    have hbc := h.2.1
    rcases List.mem_cons.1 hd with rfl | hd
    · exact hbc.2.2 hg
    · have h1 := after_from h.2.2 d hd
      have h2 := formed_num hbc.1
      have h3 := hbc.2.1
      have h4 := hg.at'
      omega
theorem at_eq {a b : Ar} {p q : Int} (hp : a.at p = b.at p) : a.at q = b.at q := by
  unfold Ar.at at hp ⊢
  injection hp with h1 h2 h3 h4
  rw [h3] at h4
  rw [h1, h2, h3]
  congr 1
  by_cases hb : 0 < b.bk
  · simp only [if_pos hb] at h4 ⊢; omega
  · simp only [if_neg hb] at h4 ⊢ <;> exact h4
/-- One area of a right list has all pages of an area that lies in it. -/
theorem span {Y : List Ar} (hY : RightL Y) {b : Ar} (hb : Formed b) (h : ∀ p, Cov b p → tab Y p = some (b.at p)) : ∃ a ∈ Y, a.s ≤ b.s ∧ b.e ≤ a.e := by
  have nb := formed_num hb
  obtain ⟨a, ha, hc, hat⟩ := tab_some (h _ (cov_first hb))
  have na := formed_num (right_formed hY a ha)
  refine ⟨a, ha, by unfold Cov at hc; omega, ?_⟩
  refine Classical.byContradiction fun hlt => ?_
  have hq : Cov b (a.e / 4096) := by unfold Cov at hc ⊢; omega
  obtain ⟨d, hd, hc2, hat2⟩ := tab_some (h _ hq)
  have nd := formed_num (right_formed hY d hd)
  have hds : d.s = a.e := by
    refine Classical.byContradiction fun hne => ?_
    have hcl : Cov a (a.e / 4096 - 1) := by unfold Cov; omega
    have hcd : Cov d (a.e / 4096 - 1) := by unfold Cov at hc2 ⊢; omega
    have := cov_one hY ha hd hcl hcd
    subst this
    unfold Cov at hc2; omega
  have hg : GoesA a d := by
    refine goes_of_at (right_formed hY a ha) (right_formed hY d hd) hds.symm ?_
    rw [hds, hat2]
    exact at_eq hat
  have hp := after_nogo hY
  obtain ⟨i, hi, rfl⟩ := List.getElem_of_mem ha
  obtain ⟨j, hj, rfl⟩ := List.getElem_of_mem hd
  rcases Nat.lt_trichotomy i j with h1 | h1 | h1
  · exact List.pairwise_iff_getElem.1 hp i j hi hj h1 hg
  · subst h1; omega
  · have := List.pairwise_iff_getElem.1 (after_pair hY) j i hj hi h1
    omega
theorem formed_eq {a b : Ar} (ha : Formed a) (hb : Formed b) (hs : a.s = b.s) (he : a.e = b.e) (h : a.at (a.s / 4096) = b.at (a.s / 4096)) : a = b := by
  rw [at_first ha, hs, at_first hb] at h
  injection h with h1 h2 h3 h4
  exact Ar.ext' hs he h1 h2 h3 h4

/-! How many areas. -/
theorem putC_len {Q : List Ar} (hQ : RightL Q) {b : Ar} (hb : Formed b) : (putC Q b).length ≤ (outsideL b.s b.e Q).length + 1 := by
  obtain ⟨h1, h2, h3⟩ := put_apart hQ hb
  have hs : ∃ l', (outsideL b.s b.e Q ++ [b]).Perm l' ∧ l'.Pairwise (fun a b => a.s ≤ b.s) :=
    ⟨(outsideL b.s b.e Q ++ [b]).mergeSort (fun a b => decide (a.s ≤ b.s)), (List.mergeSort_perm _ _).symm, by
      have := List.pairwise_mergeSort (le := fun a b : Ar => decide (a.s ≤ b.s)) (by intro a b c; simp; omega) (by intro a b; simp; omega) (outsideL b.s b.e Q ++ [b])
      exact this.imp (fun h => by simpa using h)⟩
  obtain ⟨l', hp, hs⟩ := hs
  obtain ⟨j1, j2⟩ := joined_perm h1 h2 hp hs
  have he := putC_eq hQ hb (y := joinL l') ⟨j1, fun p => (j2 p).trans (h3 p)⟩
  rw [← he]
  refine Nat.le_trans (joinL_len _) ?_
  rw [← hp.length_eq, List.length_append]
  simp
theorem outside_same {X : List Ar} (hX : RightL X) {lo hi : Int} (h : ∀ p, Touch lo hi p → tab X p = none) : outsideL lo hi X = X := by
  refine right_unique (outside_right _ _ hX) hX fun p => ?_
  rw [outside_tab _ _ hX]
  by_cases ht : Touch lo hi p
  · rw [if_pos ht, h p ht]
  · rw [if_neg ht]
theorem out_one {a x : Ar} (ha : Formed a) (hx : Formed x) (hd : Disj a x) : (outA a.s a.e x).length ≤ 1 := by
  unfold outA
  by_cases hp : PartA x a.s a.e
  · exfalso
    have h1 := hp.some
    have na := formed_num ha
    have nx := formed_num hx
    exact hd (max a.s x.s / 4096) (by unfold Cov; omega) (by unfold Cov; omega)
  · rw [if_neg hp]; simp
theorem out_self {a : Ar} (ha : Formed a) : outA a.s a.e a = [] := by
  have na := formed_num ha
  obtain ⟨h1, h2⟩ := part_tail ha (x := a.s) (by omega) (by omega) (by omega)
  rw [from_self] at h2
  unfold outA
  rw [if_pos h1, h2]
  have k : ∀ x, ¬ PartA a x x := fun x h => by have := h.some; omega
  unfold partL
  rw [if_neg (k _), if_neg (k _)]
  rfl
theorem outs_len {a : Ar} (ha : Formed a) : ∀ {l : List Ar}, (∀ x ∈ l, Formed x ∧ Disj a x) → (outsideL a.s a.e l).length ≤ l.length
  | [], _ => by simp [outsideL]
  | x :: l, h => by
    have h1 := out_one ha (h x (by simp)).1 (h x (by simp)).2
    have h2 := outs_len ha (l := l) fun y hy => h y (List.mem_cons_of_mem _ hy)
    unfold outsideL at h2 ⊢
    rw [List.flatMap_cons, List.length_append, List.length_cons]
    omega
theorem outs_area {X : List Ar} (hX : RightL X) {a : Ar} (ha : a ∈ X) : (outsideL a.s a.e X).length + 1 ≤ X.length := by
  have hf := right_formed hX
  have hd := right_disj hX
  obtain ⟨u, v, rfl⟩ := List.append_of_mem ha
  rw [List.pairwise_append] at hd
  obtain ⟨_, d2, d3⟩ := hd
  have d2 := List.pairwise_cons.1 d2
  have hfa := hf a ha
  have h1 := outs_len hfa (l := u) fun x hx => ⟨hf x (by simp [hx]), fun p p1 p2 => d3 x hx a (by simp) p p2 p1⟩
  have h2 := outs_len hfa (l := v) fun x hx => ⟨hf x (by simp [hx]), d2.1 x hx⟩
  unfold outsideL at h1 h2 ⊢
  rw [List.flatMap_append, List.flatMap_cons, out_self hfa]
  simp only [List.length_append, List.length_cons, List.length_nil]
  omega

/-! A whole area. -/
theorem area_sz {X : List Ar} (hX : RightL X) {a : Ar} (ha : a ∈ X) : szE (a.e - a.s) = 0 ∧ szV (a.e - a.s) = a.e - a.s ∧ rgE a.s (a.e - a.s) = 0 ∧ rgA a.s (a.e - a.s) = a.s ∧ rgB a.s (a.e - a.s) = a.e := by
  have hn := formed_num (right_formed hX a ha)
  obtain ⟨h1, h2⟩ := z_sz (z := a.e - a.s) (by omega)
  have he : rgE a.s (a.e - a.s) = 0 := by
    unfold rgE
    rw [if_neg (by omega), if_neg (by rw [h1]; decide), if_neg (by rw [h2]; omega)]
  refine ⟨h1, h2, he, ?_, ?_⟩
  · unfold rgA; rw [if_pos he]
  · unfold rgB; rw [if_pos he, h2]; omega
theorem rmk_area {X : List Ar} (hX : MayL X) {a : Ar} (ha : a ∈ X) {c : Cl} (h1 : c.a = a.s) (h2 : c.n = a.e - a.s) (h3 : c.nw = a.e - a.s) (h4 : flE c.f 49 = 0) (h5 : mvE c.f = 0) : Rmk X c a := by
  obtain ⟨s1, s2, s3, s4, s5⟩ := area_sz hX.1 ha
  have hn := formed_num (right_formed hX.1 a ha)
  refine ⟨hX, h4, h5, by rw [h1, h2, s3], by rw [h3, s1], fun _ => by rw [h1, h2, h3, s4, s5, s2], ha, ?_, by rw [h1, h2, s4]; omega, by rw [h1, h2, s5]; omega⟩
  unfold fnA
  rw [h1, h2, s4, fn_is hX.1 ha (Int.le_refl _) (by omega)]
  rfl
/-- Without flags, and as great as it is: it stays. -/
theorem stays_is {X : List Ar} (hX : MayL X) {a : Ar} (ha : a ∈ X) : rmR X ⟨0, a.s, a.e - a.s, a.e - a.s, 0, 0, 0, 0, 0⟩ = (X, 0, a.s) := by
  obtain ⟨s1, s2, s3, s4, s5⟩ := area_sz hX.1 ha
  obtain ⟨b1, b2, b3, b4⟩ := bits_6 (f := 0) (by decide) (by decide)
  have hk := rmk_area hX ha (c := ⟨0, a.s, a.e - a.s, a.e - a.s, 0, 0, 0, 0, 0⟩) rfl rfl rfl ((fl49_zero (f := 0) ⟨by decide, by decide⟩).2 (by decide)) ((mv_zero (f := 0) (by decide) (by decide)).2 (by decide))
  have ho := hk.os
  simp only at ho
  have hw : (rmK X ⟨0, a.s, a.e - a.s, a.e - a.s, 0, 0, 0, 0, 0⟩).way = (X, a.s, 0) := by
    have hz : (rmK X ⟨0, a.s, a.e - a.s, a.e - a.s, 0, 0, 0, 0, 0⟩).z = a.e - a.s := s2
    unfold Ask.way
    rw [if_neg (by show ¬ bitF 0 1 = true; rw [b1]; decide), if_neg (by show ¬ bitF 0 32 = true; rw [b3]; decide), if_pos (by unfold Ask.more; rw [hz, ho.1, ho.2.1, s2]; omega)]
    unfold Ask.sh
    rw [hz, ho.1, ho.2.1, s2]
    show (outsideL (a.s + (a.e - a.s)) (a.s + (a.e - a.s)) X, a.s, (0 : Int)) = _
    rw [outside_same hX.1 fun p ht => by unfold Touch at ht; omega]
  unfold rmR rmW
  rw [if_pos (rm_zero.2 ⟨a, hk⟩), hw, if_pos rfl, if_pos hX.2]
/-- A way of FIXED, and its answer. -/
theorem fixed_is {X : List Ar} {c : Cl} {a : Ar} (hk : Rmk X c a) (hf : bitF c.f 1 = true) (he : (rmK X c).fxE = 0) (hl : ((rmK X c).mv c.tw).length ≤ 24) : rmR X c = ((rmK X c).mv c.tw, 0, c.tw) := by
  have hn := hk.ok.fx_num he
  have ht : rgA (rmK X c).t (rmK X c).z = c.tw := hn.2.2.2.1
  have hw : (rmK X c).way = ((rmK X c).mv c.tw, c.tw, 0) := by
    unfold Ask.way
    rw [if_pos (show bitF (rmK X c).f 1 = true from hf)]
    unfold Ask.fx
    rw [if_pos he, ht]
  unfold rmR rmW
  rw [if_pos (rm_zero.2 ⟨a, hk⟩), hw, if_pos rfl, if_pos hl]
theorem tc_zero {o : Ar} {lo hi : Int} (h : ¬ (lo < o.e ∧ o.s < hi)) : tcE o lo hi = 0 := by unfold tcE; rw [if_neg h]
/-- There, and back. -/
theorem there_is {X : List Ar} (hX : MayL X) {a : Ar} (ha : a ∈ X) {tq : Int} (h1 : 65536 ≤ tq) (h2 : tq % 4096 = 0) (hfree : ∀ x ∈ X, ¬ (tq < x.e ∧ x.s < tq + (a.e - a.s))) :
    (2097152 < tq + (a.e - a.s) ∧ (rmR X ⟨0, a.s, a.e - a.s, a.e - a.s, tq, 0, 17, 0, 0⟩).2.1 ≠ 0) ∨
    (∃ Y, MayL Y ∧ rmR X ⟨0, a.s, a.e - a.s, a.e - a.s, tq, 0, 17, 0, 0⟩ = (Y, 0, tq) ∧ rmR Y ⟨0, tq, a.e - a.s, a.e - a.s, a.s, 0, 17, 0, 0⟩ = (X, 0, a.s)) := by
  obtain ⟨s1, s2, s3, s4, s5⟩ := area_sz hX.1 ha
  have hfa := right_formed hX.1 a ha
  have hn := formed_num hfa
  obtain ⟨b1, b2, b3, b4⟩ := bits_6 (f := 17) (by decide) (by decide)
  have hb1 : bitF 17 1 = true := by rw [b1]; decide
  have hb3 : bitF 17 32 = false := by rw [b3]; decide
  have f1 : flE 17 49 = 0 := (fl49_zero ⟨by decide, by decide⟩).2 (by decide)
  have f2 : mvE 17 = 0 := (mv_zero (by decide) (by decide)).2 (by decide)
  have hk := rmk_area hX ha (c := ⟨0, a.s, a.e - a.s, a.e - a.s, tq, 0, 17, 0, 0⟩) rfl rfl rfl f1 f2
  have ho := hk.os
  have hoo := hk.o
  simp only [s2] at ho hoo
  rw [show a.s + (a.e - a.s) = a.e by omega, from_self] at hoo
  rw [show a.s + (a.e - a.s) = a.e by omega] at ho
  have hoa : (rmK X ⟨0, a.s, a.e - a.s, a.e - a.s, tq, 0, 17, 0, 0⟩).o = a := hoo
  have hz : (rmK X ⟨0, a.s, a.e - a.s, a.e - a.s, tq, 0, 17, 0, 0⟩).z = a.e - a.s := s2
  have ht : (rmK X ⟨0, a.s, a.e - a.s, a.e - a.s, tq, 0, 17, 0, 0⟩).t = tq := rfl
  have hff : (rmK X ⟨0, a.s, a.e - a.s, a.e - a.s, tq, 0, 17, 0, 0⟩).f = 17 := rfl
  have hll : (rmK X ⟨0, a.s, a.e - a.s, a.e - a.s, tq, 0, 17, 0, 0⟩).l = X := rfl
  have hok := hk.ok
  by_cases hin : tq + (a.e - a.s) ≤ 2097152
  · have hr : rgE tq (a.e - a.s) = 0 := by
      unfold rgE
      rw [if_neg (by omega), if_neg (by rw [s1]; decide), if_neg (by rw [s2]; omega)]
    have hA : rgA tq (a.e - a.s) = tq := by unfold rgA; rw [if_pos hr]
    have hB : rgB tq (a.e - a.s) = tq + (a.e - a.s) := by unfold rgB; rw [if_pos hr, s2]
    have hofE := hok.of_same (by rw [hz, ho.1, ho.2.1]; omega)
    have he : (rmK X ⟨0, a.s, a.e - a.s, a.e - a.s, tq, 0, 17, 0, 0⟩).fxE = 0 := by
      unfold Ask.fxE
      rw [hz, ht, hr, hA, hB, hofE, tc_zero (by rw [hoa]; exact hfree a ha)]
      rfl
    obtain ⟨K, hK⟩ : ∃ K, rmK X ⟨0, a.s, a.e - a.s, a.e - a.s, tq, 0, 17, 0, 0⟩ = K := ⟨_, rfl⟩
    have hx : 65536 ≤ tq ∧ tq % 4096 = 0 ∧ tq + (rmK X ⟨0, a.s, a.e - a.s, a.e - a.s, tq, 0, 17, 0, 0⟩).z ≤ 2097152 := by rw [hz]; omega
    have hb := hok.formed hofE hx.1 hx.2.1 hx.2.2
    have hbase := hok.base
    have htab := hok.mv_tab hofE hx
    have hY := hok.mv hofE hx
    have hxo : ∀ p, Touch tq (tq + (a.e - a.s)) p → tab X p = none := fun p hp => tab_none fun x hx hc => by
      have := formed_num (right_formed hX.1 x hx)
      have := hfree x hx
      unfold Touch at hp; unfold Cov at hc; omega
    have hlen : ((rmK X ⟨0, a.s, a.e - a.s, a.e - a.s, tq, 0, 17, 0, 0⟩).mv tq).length ≤ 24 := by
      unfold Ask.mv
      refine Nat.le_trans (putC_len hbase hb) ?_
      rw [outside_same hbase fun p hp => ?_]
      · unfold Ask.base
        rw [hff, if_neg (by rw [hb3]; simp), hoa, hll]
        exact Nat.le_trans (outs_area hX.1 ha) hX.2
      · unfold Ask.base
        rw [hff, if_neg (by rw [hb3]; simp), hoa, hll, outside_tab _ _ hX.1]
        have : tab X p = none := hxo p (by unfold Ask.b at hp; rw [hz] at hp; exact hp)
        rw [this]; split <;> rfl
    have hr1 := fixed_is hk hb1 he hlen
    rw [hff] at htab
    have hbs : ((rmK X ⟨0, a.s, a.e - a.s, a.e - a.s, tq, 0, 17, 0, 0⟩).b tq) = ⟨tq, tq + (a.e - a.s), a.p, a.sh, a.bk, a.off⟩ := by
      unfold Ask.b; rw [hz, hoa]
    rw [hbs] at hb htab
    rw [hoa, hll] at htab
    generalize (rmK X ⟨0, a.s, a.e - a.s, a.e - a.s, tq, 0, 17, 0, 0⟩).mv tq = Y at *
    have hYm : MayL Y := ⟨hY, hlen⟩
    refine .inr ⟨Y, hYm, hr1, ?_⟩
    -- back
    obtain ⟨b, hbb⟩ : ∃ b : Ar, b = ⟨tq, tq + (a.e - a.s), a.p, a.sh, a.bk, a.off⟩ := ⟨_, rfl⟩
    rw [← hbb] at hb htab
    have ebs : b.s = tq := by rw [hbb]
    have ebe : b.e = tq + (a.e - a.s) := by rw [hbb]
    obtain ⟨d, hd, hd1, hd2⟩ := span hY hb fun p hc => by rw [htab, if_pos hc]
    obtain ⟨t1, t2⟩ := z_sz (z := a.e - a.s) (by omega)
    have hk2 : Rmk Y ⟨0, tq, a.e - a.s, a.e - a.s, a.s, 0, 17, 0, 0⟩ d := by
      refine ⟨hYm, f1, f2, hr, s1, fun _ => ?_, hd, ?_, ?_, ?_⟩
      · show rgB tq (a.e - a.s) - rgA tq (a.e - a.s) = szV (a.e - a.s)
        rw [hA, hB, s2]; omega
      · show fnA Y (rgA tq (a.e - a.s)) = d
        unfold fnA
        rw [hA, fn_is hY hd (by omega) (by omega)]
        rfl
      · show d.s ≤ rgA tq (a.e - a.s)
        rw [hA]; omega
      · show rgB tq (a.e - a.s) ≤ d.e
        rw [hB]; omega
    have ho2 := hk2.os
    simp only [s2] at ho2
    have hok2 := hk2.ok
    have hz2 : (rmK Y ⟨0, tq, a.e - a.s, a.e - a.s, a.s, 0, 17, 0, 0⟩).z = a.e - a.s := s2
    have hob : (rmK Y ⟨0, tq, a.e - a.s, a.e - a.s, a.s, 0, 17, 0, 0⟩).o = b := by
      refine formed_eq hok2.o hb (by rw [ho2.1, ebs]) (by rw [ho2.2.1, ebe]) ?_
      have hc := cov_first hok2.o
      have h3 := hk2.tab _ hc
      rw [htab, if_pos (by unfold Cov at hc ⊢; rw [ho2.1, ho2.2.1] at hc; rw [ho2.1]; omega)] at h3
      exact (Option.some.inj h3).symm
    have hofE2 := hok2.of_same (by rw [hz2, ho2.1, ho2.2.1]; omega)
    have he2 : (rmK Y ⟨0, tq, a.e - a.s, a.e - a.s, a.s, 0, 17, 0, 0⟩).fxE = 0 := by
      unfold Ask.fxE
      rw [hz2]
      show firstE [rgE a.s (a.e - a.s), tcE _ (rgA a.s (a.e - a.s)) (rgB a.s (a.e - a.s)), _] = 0
      rw [s3, s4, s5, hofE2, tc_zero (by rw [hob, ebs, ebe]; have := hfree a ha; omega)]
      rfl
    have hx2 : 65536 ≤ a.s ∧ a.s % 4096 = 0 ∧ a.s + (rmK Y ⟨0, tq, a.e - a.s, a.e - a.s, a.s, 0, 17, 0, 0⟩).z ≤ 2097152 := by rw [hz2]; omega
    have htab2 := hok2.mv_tab hofE2 hx2
    have hba : ((rmK Y ⟨0, tq, a.e - a.s, a.e - a.s, a.s, 0, 17, 0, 0⟩).b a.s) = a := by
      unfold Ask.b; rw [hz2, hob, hbb]
      exact Ar.ext' rfl (by simp only; omega) rfl rfl rfl rfl
    have hXe : (rmK Y ⟨0, tq, a.e - a.s, a.e - a.s, a.s, 0, 17, 0, 0⟩).mv a.s = X := by
      refine right_unique (hok2.mv hofE2 hx2) hX.1 fun p => ?_
      rw [htab2, hba, hob]
      show (if Cov a p then some (a.at p) else if bitF 17 32 = false ∧ Touch b.s b.e p then none else tab Y p) = _
      by_cases hc : Cov a p
      · rw [if_pos hc, tab_of (right_disj hX.1) ha hc]
      · rw [if_neg hc]
        by_cases ht : Touch b.s b.e p
        · rw [if_pos ⟨hb3, ht⟩, hxo p (by rw [← ebs, ← show b.e = b.s + (a.e - a.s) by omega]; exact ht)]
        · rw [if_neg (fun k => ht k.2), htab, if_neg (fun k => ht ((touch_cov hb p).2 k)), if_neg (fun k => hc ((touch_cov hfa p).1 k.2))]
    have := fixed_is hk2 hb1 he2 (by rw [hXe]; exact hX.2)
    rw [hXe] at this
    exact this
  · refine .inl ⟨by omega, ?_⟩
    have hr : rgE tq (a.e - a.s) ≠ 0 := by
      intro k
      have := rg_ok k
      rw [s2] at this
      omega
    have he : (rmK X ⟨0, a.s, a.e - a.s, a.e - a.s, tq, 0, 17, 0, 0⟩).fxE ≠ 0 := fun k => by
      have := (Ask.fx_zero k).1
      rw [hz, ht] at this
      exact hr this
    have hw : (rmK X ⟨0, a.s, a.e - a.s, a.e - a.s, tq, 0, 17, 0, 0⟩).way = ([], 0, (rmK X ⟨0, a.s, a.e - a.s, a.e - a.s, tq, 0, 17, 0, 0⟩).fxE) := by
      unfold Ask.way
      rw [hff, if_pos hb1]
      unfold Ask.fx
      rw [if_neg he]
    unfold rmR rmW
    rw [if_pos (rm_zero.2 ⟨a, hk⟩), hw, if_neg he]
    exact he

/-! Pages behind a remap. -/
theorem b_at {K : Ask} (hok : K.Ok) {x : Int} {i j : Int} (h : 4096 * i - x = 4096 * j - K.o.s) : (K.b x).at i = K.o.at j := by
  unfold Ask.b Ar.at
  simp only
  congr 1
  split <;> omega
/-- What is told, in pages: where it begins, and how many. -/
structure Pages (c : Cl) (x : Int) (m k N O : Nat) : Prop where
  x : x = 4096 * (m : Int)
  a : c.a = 4096 * (k : Int)
  nw : (c.nw + 4095) / 4096 = (N : Int)
  n : (c.n + 4095) / 4096 = (O : Int)
  m : 16 ≤ m ∧ m + N ≤ 512
  k : 16 ≤ k ∧ k + O ≤ 512
  c : 0 < c.n ∧ c.n ≤ 2031616 ∧ 0 < c.nw ∧ c.nw ≤ 2031616
theorem keeps_is {X : List Ar} {c : Cl} {a : Ar} (hk : Rmk X c a) {Y : List Ar} {x : Int} (hg : (rmK X c).Goes (Y, x, 0)) :
    ∃ m k N O : Nat, Pages c x m k N O ∧ (∀ i : Nat, i < N → i < O → ∃ t, tab X ((k + i : Nat) : Int) = some t ∧ tab Y ((m + i : Nat) : Int) = some t) ∧ (∀ i : Nat, i < N → ∃ t, tab Y ((m + i : Nat) : Int) = some t) := by
  have hn := hk.num
  have ho := hk.os
  have hok := hk.ok
  have hsz := sz_ok hk.sz
  have hsn := sz_ok (rg_ok hk.rg).2.1
  have hz : (rmK X c).z = szV c.nw := rfl
  have hoz := hok.z
  rw [hz] at hoz
  have hbnd : 65536 ≤ x ∧ x % 4096 = 0 ∧ x + szV c.nw ≤ 2097152 := by
    cases hg with
    | err e h => exact absurd rfl h
    | mv x ho hx => exact hx
    | sh h1 h2 => rw [ho.1]; rw [hz, ho.1, ho.2.1] at h1; omega
  obtain ⟨m, hm⟩ : ∃ m : Nat, x = 4096 * (m : Int) := ⟨(x / 4096).toNat, by omega⟩
  obtain ⟨k, hkk⟩ : ∃ k : Nat, c.a = 4096 * (k : Int) := ⟨(c.a / 4096).toNat, by omega⟩
  obtain ⟨N, hN⟩ : ∃ N : Nat, (c.nw + 4095) / 4096 = (N : Int) := ⟨((c.nw + 4095) / 4096).toNat, by omega⟩
  obtain ⟨O, hO⟩ : ∃ O : Nat, (c.n + 4095) / 4096 = (O : Int) := ⟨((c.n + 4095) / 4096).toNat, by omega⟩
  refine ⟨m, k, N, O, ⟨hm, hkk, hN, hO, by omega, by omega, by omega⟩, ?_⟩
  have old : ∀ i : Nat, i < O → tab X ((k + i : Nat) : Int) = some ((rmK X c).o.at ((k + i : Nat) : Int)) := fun i hi => hk.tab _ (by unfold Cov; rw [ho.1, ho.2.1]; omega)
  cases hg with
  | err e h => exact absurd rfl h
  | mv x hoE hx =>
    have hb : ∀ i : Nat, i < N → tab ((rmK X c).mv x) ((m + i : Nat) : Int) = some (((rmK X c).b x).at ((m + i : Nat) : Int)) := fun i hi => by
      rw [hok.mv_tab hoE hx, if_pos (by unfold Ask.b Cov; rw [hz]; simp only; omega)]
    refine ⟨fun i h1 h2 => ⟨_, old i h2, ?_⟩, fun i hi => ⟨_, hb i hi⟩⟩
    rw [hb i h1, b_at (j := ((k + i : Nat) : Int)) hok (by rw [ho.1]; omega)]
  | sh h1 h2 =>
    rw [hz, ho.1, ho.2.1] at h1
    have hb : ∀ i : Nat, i < N → tab (outsideL ((rmK X c).o.s + (rmK X c).z) (rmK X c).o.e (rmK X c).l) ((m + i : Nat) : Int) = some ((rmK X c).o.at ((k + i : Nat) : Int)) := fun i hi => by
      rw [outside_tab _ _ hok.may.1, if_neg (fun t => by unfold Touch at t; rw [hz, ho.1, ho.2.1] at t; rw [ho.1] at hm; omega), show m = k by rw [ho.1] at hm; omega]
      exact old i (by omega)
    exact ⟨fun i k1 k2 => ⟨_, old i k2, hb i k1⟩, fun i hi => ⟨_, hb i hi⟩⟩
theorem others_is {X : List Ar} {c : Cl} {a : Ar} (hk : Rmk X c a) {Y : List Ar} {x : Int} (hg : (rmK X c).Goes (Y, x, 0)) (p : Int) (h1 : ¬ Touch c.a (c.a + c.n) p) (h2 : ¬ Touch x (x + c.nw) p) : tab Y p = tab X p := by
  have hn := hk.num
  have ho := hk.os
  have hok := hk.ok
  have hsz := sz_ok hk.sz
  have hsn := sz_ok (rg_ok hk.rg).2.1
  have hz : (rmK X c).z = szV c.nw := rfl
  cases hg with
  | err e h => exact absurd rfl h
  | mv x hoE hx =>
    rw [hok.mv_tab hoE hx, if_neg, if_neg]
    · rfl
    · rintro ⟨_, ht⟩
      rw [ho.1, ho.2.1] at ht
      refine h1 ?_
      unfold Touch at ht ⊢; omega
    · intro hc
      refine h2 ?_
      unfold Ask.b Cov at hc
      rw [hz] at hc
      simp only at hc
      unfold Touch; omega
  | sh k1 k2 =>
    rw [outside_tab _ _ hok.may.1, if_neg]
    · rfl
    intro ht
    rw [hz, ho.1, ho.2.1] at ht
    refine h1 ?_
    unfold Touch at ht ⊢; omega
end Go.Proofs.YtholpgcghpikgaaGreat
