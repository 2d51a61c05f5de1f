/-
  Texts of our own, one behind the other (MapSome, MapBits, SpOf, SpKept, SpCh): what the laws' proofs rest on; each says at its head what it holds. No conditions.
-/
import Derived.Test.YtejkhnphplpkeaaPkM
import Derived.Test.YtejkhnphplpkeaaPkLc
/-
  Layer 10: lists that may come, as the laws have them; variables that are written.
-/
namespace Go.Proofs.Ytejkhnphplpkeaa
open Go.ChangeShapes Go.WideShapes Go.ChangeAt Go.RowKit Go.Shelf
set_option linter.unusedVariables false
attribute [local go_sem ↓] Go.wp_at_zero Go.wp_at_succ

theorem after_take' : ∀ (z : Ar) (l : List Ar) (k : Nat), After' z l → After' z (l.take k)
  | _, [], _, _ => by simp [After']
  | _, _ :: _, 0, _ => by simp [After']
  | z, a :: l, k + 1, h => by rw [List.take_succ_cons]; exact ⟨h.1, after_take' a l k h.2⟩
theorem right_take {l : List Ar} (h : RightL l) (k : Nat) : RightL (l.take k) := after_take' _ _ _ h
/-- The list that a law has of what it is handed. -/
def someL (l : List Ar) : List Ar := (madeL l).take 24
theorem someL_may (l : List Ar) : MayL (someL l) := ⟨right_take (madeL_right l) 24, by unfold someL; rw [List.length_take]; omega⟩
theorem cls_take : ∀ (l : List Ar) (k : Nat), (cls l).take (k * 6) = cls (l.take k)
  | [], k => by simp [cls]
  | a :: l, 0 => by simp [cls]
  | a :: l, k + 1 => by
    have ih := cls_take l k
    simp only [cls, List.flatMap_cons, List.take_succ_cons] at *
    rw [List.take_append, List.take_of_length_le (by simp [Ar.cl]; omega), ← ih]
    congr 1
    congr 1
    simp [Ar.cl]; omega
theorem Mine.take {B : Nat} {w : World} {A : Option Addr} {n c : Nat} {l : List Ar} (h : Mine B w (.slice A n c) l) (k : Nat) : Mine B w (.slice A (min n k) c) (l.take k) := by
  obtain ⟨h1, h2⟩ := h
  refine ⟨by rw [cls_len], ?_⟩
  rcases h2 with ⟨hv, h0⟩ | ⟨g, cap, cur, hv, hb, hg, hn, hm, hs, ht⟩
  · injection hv with e1 e2 e3
    subst e1 e2 e3
    have : l = [] := List.eq_nil_of_length_eq_zero h0
    subst this
    exact .inl ⟨by simp, by simp⟩
  · injection hv with e1 e2 e3
    subst e1 e2 e3
    refine .inr ⟨g, c, cur, by rw [List.length_take, Nat.min_comm], hb, hg, by rw [List.length_take]; omega, hm, hs, ?_⟩
    rw [← cls_take, ← ht, List.take_take, List.length_take]
    congr 1
    rcases Nat.le_total k l.length with h | h
    · rw [Nat.min_eq_left h, Nat.min_eq_left (Nat.mul_le_mul_right 6 h)]
    · rw [Nat.min_eq_right h, Nat.min_eq_right (Nat.mul_le_mul_right 6 h)]
/-- A list of its own stays where a block of another type is written. -/
theorem Mine.far {B : Nat} {w : World} {v : Value} {l : List Ar} {q : Nat} {t : TypeId} {cs : Array Value} (h : Mine B w v l) (hq : Whole w q t cs) (ht : 74 ≠ t) (i : Nat) (u : Value) : Mine B (w.setCell ⟨q, i, none⟩ u) v l :=
  own_far h (own_apart h hq ht) u
set_option maxHeartbeats 1000000 in
theorem some_c {w : World} {v : Value} {l : List Ar} (h : Holds w v l) (hl : l.length ≤ 40) : Calls Try.prog 9 #[v] w fun e w' => ∃ v', e = .returned v' ∧ Mine w.heap.size w' v' (someL l) ∧ Below w.heap.size w w' := by
  obtain ⟨A, c, rfl, hc, hA⟩ := h
  have CM := Lib.hid (made_any A c l hl hc w hA)
  unfold someL
  have hX := right_len (madeL_right l)
  clear hA hc
  generalize madeL l = X at *
  generalize l.length = n at *
  go_enter Try.func9, Try.ntmps9
  go_wp2_with fail
  refine CM.out.mono ?_
  rintro e w1 ⟨v1, rfl, hh, hb⟩
  have KX := Lib.hid hh
  have B := Lib.hid hb
  obtain ⟨A1, c1, hv, hc1, _⟩ := hh.holds
  subst hv
  clear hh hb CM
  have HT := Lib.hid (KX.out.take 24)
  generalize hn : X.length = m at *
  clear hn KX
  rw [show min m 24 = (min (m : Int) 24).toNat by omega] at HT
  cases A1 with
  | none =>
    go_wp2_with fail
    go_ret
    exact ⟨_, rfl, HT.out, B.out⟩
  | some ad =>
    go_wp2_with fail
    go_ret
    exact ⟨_, rfl, HT.out, B.out⟩

theorem bit_zero (k : Int) : bitF 0 k = false := by
  unfold bitF
  show (IntKind.i64.wrap ((BitVec.ofInt 64 0 &&& BitVec.ofInt 64 k).toNat : Int) != 0) = false
  simp [BitVec.ofInt, IntKind.wrap_i64]
theorem putC_nil {a : Ar} (ha : Formed a) : putC [] a = [a] := by
  have h := putC_is (X := []) trivial ha
  refine right_unique h.1 (right_one ha) fun p => ?_
  rw [h.2]
  simp [tab]
/-! A variable of a call is written. -/
section
variable {w wr : World} {l : List (Nat × TypeId × Array Value)} {q : Nat} {t : TypeId} {cs : Array Value} {x0 : Nat × TypeId × Array Value}
theorem Bag.set0 (h : Bag w wr ((q, t, cs) :: l)) (i : Nat) (u : Value) (hl : ∀ x ∈ l, x.1 ≠ q) (hq : w.heap.size ≤ q) : Bag w (wr.setCell ⟨q, i, none⟩ u) ((q, t, cs.setIfInBounds i u) :: l) := by
  refine ⟨fun x hx => ?_, h.bel.setCell (by simpa using hq) _⟩
  rcases List.mem_cons.1 hx with rfl | hx
  · exact h.v0.put i u
  · exact (h.all x (List.mem_cons_of_mem _ hx)).far (hl x hx) u
theorem Bag.set1 (h : Bag w wr (x0 :: (q, t, cs) :: l)) (i : Nat) (u : Value) (h0 : x0.1 ≠ q) (hl : ∀ x ∈ l, x.1 ≠ q) (hq : w.heap.size ≤ q) : Bag w (wr.setCell ⟨q, i, none⟩ u) (x0 :: (q, t, cs.setIfInBounds i u) :: l) := by
  refine ⟨fun x hx => ?_, h.bel.setCell (by simpa using hq) _⟩
  rcases List.mem_cons.1 hx with rfl | hx
  · exact (h.all _ (by simp)).far h0 u
  · rcases List.mem_cons.1 hx with rfl | hx
    · exact h.v1.put i u
    · exact (h.all x (List.mem_cons_of_mem _ (List.mem_cons_of_mem _ hx))).far (hl x hx) u
end
theorem nine {w : World} {q : Nat} {t : TypeId} {x0 x1 x2 x3 x4 x5 x6 x7 x8 : Value} (h : Whole w q t #[x0, x1, x2, x3, x4, x5, x6, x7, x8]) : w.cell? ⟨q, 0, none⟩ = some x0 ∧ w.cell? ⟨q, 1, none⟩ = some x1 ∧ w.cell? ⟨q, 2, none⟩ = some x2 ∧ w.cell? ⟨q, 3, none⟩ = some x3 ∧ w.cell? ⟨q, 4, none⟩ = some x4 ∧ w.cell? ⟨q, 5, none⟩ = some x5 ∧ w.cell? ⟨q, 6, none⟩ = some x6 ∧ w.cell? ⟨q, 7, none⟩ = some x7 ∧ w.cell? ⟨q, 8, none⟩ = some x8 :=
  ⟨h.cell 0, h.cell 1, h.cell 2, h.cell 3, h.cell 4, h.cell 5, h.cell 6, h.cell 7, h.cell 8⟩
theorem Bag.set2 {w wr : World} {l : List (Nat × TypeId × Array Value)} {q : Nat} {t : TypeId} {cs : Array Value} {x0 x1 : Nat × TypeId × Array Value} (h : Bag w wr (x0 :: x1 :: (q, t, cs) :: l)) (i : Nat) (u : Value) (h0 : x0.1 ≠ q) (h1 : x1.1 ≠ q) (hl : ∀ x ∈ l, x.1 ≠ q) (hq : w.heap.size ≤ q) : Bag w (wr.setCell ⟨q, i, none⟩ u) (x0 :: x1 :: (q, t, cs.setIfInBounds i u) :: l) := by
  have hb := Bag.set1 h.tail i u h1 hl hq
  refine ⟨fun x hx => ?_, hb.bel⟩
  rcases List.mem_cons.1 hx with rfl | hx
  · exact (h.all _ (by simp)).far h0 u
  · exact hb.all x hx
end Go.Proofs.Ytejkhnphplpkeaa

/-
  Layer 10: what follows, without a program: flags, and what a range touches.
-/
namespace Go.Proofs.Ytejkhnphplpkeaa
set_option linter.unusedVariables false

/-- The bits of flags of 8 bits. -/
theorem bits_fin : ∀ f : Fin 256, (bitF (f.val : Int) 1 = decide (f.val % 2 = 1)) ∧ (bitF (f.val : Int) 2 = decide (f.val / 2 % 2 = 1)) ∧ (bitF (f.val : Int) 4 = decide (f.val / 4 % 2 = 1)) ∧ (bitF (f.val : Int) 8 = decide (f.val / 8 % 2 = 1)) := by decide +kernel
theorem bits_byte {f : Int} (h0 : 0 ≤ f) (h1 : f < 256) : (bitF f 1 = decide (f % 2 = 1)) ∧ (bitF f 2 = decide (f / 2 % 2 = 1)) ∧ (bitF f 4 = decide (f / 4 % 2 = 1)) ∧ (bitF f 8 = decide (f / 8 % 2 = 1)) := by
  obtain ⟨n, rfl⟩ : ∃ n : Nat, f = (n : Int) := ⟨f.toNat, by omega⟩
  have h := bits_fin ⟨n, by omega⟩
  simp only at h
  obtain ⟨e1, e2, e3, e4⟩ := h
  rw [e1, e2, e3, e4]
  refine ⟨?_, ?_, ?_, ?_⟩ <;> (congr 1; simp only [eq_iff_iff]; omega)
/-- Flags that are all allowed. -/
theorem fl_zero {f : Int} (h : i64 f) : flE f 15 = 0 ↔ 0 ≤ f ∧ f ≤ 15 := by
  unfold flE
  by_cases hn : f < 0
  · rw [if_pos (.inl hn)]; constructor
    · intro h; cases h
    · intro h; omega
  · obtain ⟨n, rfl⟩ : ∃ n : Nat, f = (n : Int) := ⟨f.toNat, by omega⟩
    have hb : n < 2 ^ 63 := by unfold i64 at h; omega
    have hz := andNot_zero n 15 hb (by decide)
    have key : (∀ j, n.testBit j = true → (15 : Nat).testBit j = true) ↔ n ≤ 15 := by
      constructor
      · intro h
        have h2 : n / 16 = 0 := by
          apply Nat.eq_of_testBit_eq
          intro i
          rw [Nat.zero_testBit, show (16 : Nat) = 2 ^ 4 from rfl, Nat.testBit_div_two_pow]
          cases ht : n.testBit (i + 4) with
          | false => rfl
          | true =>
            have := h _ ht
            rw [show (15 : Nat) = 2 ^ 4 - 1 from rfl, Nat.testBit_two_pow_sub_one] at this
            simp at this
            omega
        omega
      · intro h j hj
        rw [show (15 : Nat) = 2 ^ 4 - 1 from rfl, Nat.testBit_two_pow_sub_one]
        rcases Nat.lt_or_ge j 4 with hlt | hge
        · simpa using hlt
        · have h1 : n < 2 ^ j := Nat.lt_of_lt_of_le (show n < 2 ^ 4 by omega) (Nat.pow_le_pow_right (by omega) hge)
          rw [Nat.testBit_lt_two_pow h1] at hj
          cases hj
    by_cases hk : bits .andNot .i64 (n : Int) 15 = 0
    · have := key.1 (hz.1 hk)
      rw [if_neg (by rintro (x | x); exact hn x; exact x hk)]
      constructor
      · intro _; omega
      · intro _; rfl
    · rw [if_pos (.inr hk)]
      constructor
      · intro h; cases h
      · intro h; exact absurd (hz.2 (key.2 (by omega))) hk
theorem fl_or (f a : Int) : flE f a = 0 ∨ flE f a = 1 := by unfold flE; split <;> simp
theorem fg_zero {f : Int} (h : i64 f) : fgE f = 0 ↔ (0 ≤ f ∧ f ≤ 15) ∧ f % 4 ≠ 2 := by
  unfold fgE
  by_cases hf : 0 ≤ f ∧ f ≤ 15
  · obtain ⟨e1, e2, _, _⟩ := bits_byte (f := f) (by omega) (by omega)
    rw [e1, e2]
    by_cases h4 : f % 4 = 2
    · rw [if_pos (by simp only [decide_eq_true_eq, decide_eq_false_iff_not]; omega)]
      constructor
      · intro h; cases h
      · intro h; exact absurd h4 h.2
    · rw [if_neg (by simp only [decide_eq_true_eq, decide_eq_false_iff_not]; omega), (fl_zero h).2 hf]
      exact ⟨fun _ => ⟨hf, h4⟩, fun _ => rfl⟩
  · constructor
    · intro hz
      by_cases hc : bitF f 2 = true ∧ bitF f 1 = false
      · rw [if_pos hc] at hz; cases hz
      · rw [if_neg hc] at hz; exact absurd ((fl_zero h).1 hz) hf
    · intro hz; exact absurd hz.1 hf
theorem fg_or (f : Int) : fgE f = 0 ∨ fgE f = 1 := by
  unfold fgE
  by_cases h : bitF f 2 = true ∧ bitF f 1 = false
  · rw [if_pos h]; exact .inr rfl
  · rw [if_neg h]; exact fl_or f 15

/-- A range that touches pages of a right list. -/
theorem inside_iff {X : List Ar} (hX : RightL X) (lo hi : Int) : insideL lo hi X ≠ [] ↔ ∃ p : Int, tab X p ≠ none ∧ Touch lo hi p := by
  constructor
  · intro h
    obtain ⟨b, hb⟩ := List.exists_mem_of_ne_nil _ h
    obtain ⟨a, ha, hb⟩ := List.mem_flatMap.1 hb
    obtain ⟨hp, rfl⟩ := partL_mem hb
    obtain ⟨hf, _, _, hc, _⟩ := part_is hp
    have h1 := (hc _).1 (cov_first hf)
    refine ⟨_, ?_, h1.2⟩
    rw [tab_of (right_disj hX) ha h1.1]; simp
  · rintro ⟨p, h1, h2⟩ h
    cases ht : tab X p with
    | none => exact h1 ht
    | some x =>
      obtain ⟨a, ha, hc, _⟩ := tab_some ht
      have hp := part_cov (right_formed hX a ha) hc h2
      have : a.part lo hi ∈ insideL lo hi X := List.mem_flatMap.2 ⟨a, ha, by unfold partL; rw [if_pos hp]; simp⟩
      rw [h] at this; cases this

end Go.Proofs.Ytejkhnphplpkeaa

/-
  Layer 8: the pages of a right list, by the reference: a contract.
-/
namespace Go.Proofs.Ytejkhnphplpkeaa
open Go.ChangeShapes Go.WideShapes Go.ChangeAt Go.RowKit Go.Shelf
set_option linter.unusedVariables false
attribute [local go_sem ↓] Go.wp_at_zero Go.wp_at_succ

/-- The pages of the first areas; and of one more, ahead of a page. -/
def spK (l : List Ar) (k : Nat) : Sp := fun p => tab (l.take k) p
def spM (l : List Ar) (k : Nat) (a : Ar) (n : Nat) : Sp := fun p => if Cov a p ∧ p < n then some (a.at p) else tab (l.take k) p
theorem spM_put (l : List Ar) (k : Nat) (a : Ar) (n : Nat) (hc : Cov a n) : (spM l k a n).put n (some (a.at n)) = spM l k a (n + 1) := by
  funext p
  unfold Sp.put spM
  by_cases hp : p = n
  · subst hp; rw [if_pos rfl, if_pos ⟨hc, by omega⟩]
  · rw [if_neg hp]
    by_cases h1 : Cov a p ∧ p < n
    · rw [if_pos h1, if_pos ⟨h1.1, by omega⟩]
    · rw [if_neg h1, if_neg (fun h => h1 ⟨h.1, by omega⟩)]
theorem spM_all {l : List Ar} (hd : l.Pairwise Disj) {k : Nat} (hk : k < l.length) (m : Nat) (hm : ∀ p : Nat, Cov l[k] p → p < m) : spM l k l[k] m = spK l (k + 1) := by
  funext p
  unfold spM spK
  rw [List.take_succ_eq_append_getElem hk, tab_app]
  by_cases h : Cov l[k] p
  · rw [if_pos ⟨h, hm p h⟩]
    have hn : tab (l.take k) p = none := tab_none fun b hb hc => by
      obtain ⟨i, hi, rfl⟩ := List.getElem_of_mem hb
      have hi' : i < k := by rw [List.length_take] at hi; omega
      rw [List.getElem_take] at hc
      exact List.pairwise_iff_getElem.1 hd i k (by omega) hk hi' p hc h
    rw [hn]; simp [tab, h]
  · rw [if_neg (fun k => h k.1)]; simp [tab, h]

set_option maxHeartbeats 8000000 in
theorem ofL_any (l : List Ar) (hr : RightL l) (A : Option Addr) (c : Nat) (w : World) (hA : Areas w.heap.size w A l) :
    Calls Try.prog 56 #[.slice A l.length c] w fun e w' => e = .returned (.agg (spc (spK l l.length))) ∧ Below w.heap.size w w' := by
  have hlen := right_len hr
  have HD := Lib.hid (right_disj hr)
  have HF := Lib.hid (right_formed hr)
  have O0 := Lib.hid (OfAt.new w)
  have HA := Lib.hid hA
  clear hA hr
  have S0 : Hid (spK l 0 = fun _ => none) := Lib.hid (by funext p; simp [spK, tab])
  obtain ⟨len, hL⟩ : ∃ len, l.length = len := ⟨_, rfl⟩
  rw [hL] at hlen ⊢
  have HL := Lib.hid hL
  clear hL
  go_enter Try.func56, Try.ntmps56
  go_wp2_with fail
  generalize (w.alloc _).alloc _ = W0 at *
  go_loopg [4, 5, 6, 7] len (fun g s4 _ _ _ wr => ∃ k : Nat, k ≤ len ∧ len - k ≤ g ∧ s4 = .int .i64 k ∧ Hid (OfAt w wr (spK l k)))
  case atStart => exact ⟨0, by omega, by omega, rfl, by rw [S0.out]; exact O0⟩
  case round =>
    obtain ⟨k, hk, hg, rfl, HO⟩ := hrel
    by_cases hlt : k < len
    · have hltz : (k : Int) < (len : Int) := by omega
      have hkz0 : (0 : Int) ≤ (k : Int) := by omega
      have hlk : k < l.length := by rw [HL.out]; exact hlt
      have hn := formed_num (HF.out l[k] (List.getElem_mem hlk))
      obtain ⟨m0, hm0⟩ : ∃ m0 : Nat, l[k].s = 4096 * (m0 : Int) := ⟨(l[k].s / 4096).toNat, by omega⟩
      obtain ⟨m1, hm1⟩ : ∃ m1 : Nat, l[k].e = 4096 * (m1 : Int) := ⟨(l[k].e / 4096).toNat, by omega⟩
      have X := Lib.hid (fun (n : Nat) (h1 : m0 ≤ n) (h2 : n < m1) => refAttr_in l[k] n (by omega) (by omega) (by omega) (by omega) (by omega) (by omega))
      have q0 : l[k].s.tdiv 4096 = (m0 : Int) := by rw [tdiv_up (by omega)]; omega
      have q1 : l[k].e.tdiv 4096 = (m1 : Int) := by rw [tdiv_up (by omega)]; omega
      have hmm : 16 ≤ m0 ∧ m0 < m1 ∧ m1 ≤ 512 := by omega
      have HC : Hid (∀ n : Nat, m0 ≤ n → n < m1 → Cov l[k] n) := Lib.hid (fun n h1 h2 => by unfold Cov; omega)
      have HS0 : Hid (spM l k l[k] m0 = spK l k) := Lib.hid (by funext p; unfold spM spK; rw [if_neg (by unfold Cov; omega)])
      have HS1 : Hid (spM l k l[k] m1 = spK l (k + 1)) := Lib.hid (spM_all HD.out hlk m1 (fun p hp => by unfold Cov at hp; omega))
      rcases HA.out with hnl | ⟨b, off, rfl, hb, hcs⟩
      · rw [hnl] at hlk; simp at hlk
      have HAT := Lib.hid (fun W h => (hcs k hlk).below (w' := W) h hb)
      clear hcs hm0 hm1 hn
      generalize l[k] = a at *
      obtain ⟨c0, c1, c2, c3, c4, c5⟩ := HAT.out _ HO.out.bel
      go_wp2_with fail
      go_loopg [5, 6, 7] (m1 - m0) (fun g s5 _ _ wr => ∃ n : Nat, m0 ≤ n ∧ n ≤ m1 ∧ m1 - n ≤ g ∧ s5 = .int .i64 n ∧ Hid (OfAt w wr (spM l k a n)))
      case atStart => exact ⟨m0, by omega, by omega, by omega, rfl, by rw [HS0.out]; exact HO⟩
      case round =>
        obtain ⟨n, hn0, hn1, hgn, rfl, HN⟩ := hrel
        clear c0 c1 c2 c3 c4 c5 HO
        obtain ⟨c0, c1, c2, c3, c4, c5⟩ := HAT.out _ HN.out.bel
        by_cases hln : n < m1
        · have hlz : (n : Int) < (m1 : Int) := by omega
          have hz0 : (0 : Int) ≤ (n : Int) := by omega
          have hz1 : (n : Int) < 512 := by omega
          have X1 := Lib.hid (X.out n hn0 hln)
          have N1 := Lib.hid (fun W h => (OfAt.still (w' := W) HN.out h))
          have SP := Lib.hid (spM_put l k a n (HC.out n hn0 hln))
          generalize a.at (n : Int) = x at *
          obtain ⟨x0, x1, x2, x3⟩ := x
          simp only [Ar.v, At.v] at X1
          go_wp2_with fail
          refine (X1.out _).mono ?_
          rintro e w1 ⟨rfl, hb1⟩
          have N2 := Lib.hid (N1.out _ (hb1.alloc hb1.size (.cells #[.int .i64 x0, .bool x1, .int .i64 x2, .int .i64 x3] 110)))
          clear hb1 c0 c1 c2 c3 c4 c5
          obtain ⟨⟨d0, d1, d2, d3, d4, i0, i1, i2, i3, i4⟩, fz⟩ := sp_is N2.out.s (p := n) (by omega)
          go_wp2_with fail
          go_roundg (m1 - (n + 1))
          case measure => omega
          case rel =>
            refine ⟨n + 1, by omega, by omega, by omega, by go_num, Lib.hid ?_⟩
            rw [← SP.out]
            exact N2.out.put (by omega) ⟨x0, x1, x2, x3⟩
        · obtain rfl : n = m1 := by omega
          go_wp2_with fail
          go_roundg (len - (k + 1))
          case measure => omega
          case rel =>
            refine ⟨k + 1, by omega, by omega, by go_num, Lib.hid ?_⟩
            rw [← HS1.out]
            exact HN.out
    · obtain rfl : k = len := by omega
      go_wp2_with (first | (refine wpList_load_mid rfl 114 (.tmp 3) (by rfl) (w.heap.size + 1) 0 (by rfl) (spl (spK l k) 512) _ HO.out.s.range Try.underlying114 rfl (space_size _) ?_) | (refine wpList_store_mid rfl 114 (.tmp 2) (.tmp 43) (by rfl) w.heap.size 0 (spl (spK l k) 512).toArray (by rfl) (by rfl) HO.out.z.there (space_size' _) (spl_one _ _) ?_))
      refine bodyPost_ret (results_cell_row rfl _ _ w.heap.size 114 (spc (spK l k)) (0, 0) _ rfl HO.out.z.all Try.underlying114 rfl (space_size' _)) rfl ?_
      exact ⟨rfl, HO.out.bel.trans ((only_many _ _ _).below (B := w.heap.size) (fun k hk => by omega) HO.out.bel.size)⟩
end Go.Proofs.Ytejkhnphplpkeaa

/-
  Layer 10: the reference: pages as a list, and what is kept: a contract.
-/
namespace Go.Proofs.Ytejkhnphplpkeaa
open Go.ChangeShapes Go.WideShapes Go.ChangeAt Go.RowKit Go.Shelf
set_option linter.unusedVariables false
attribute [local go_sem ↓] Go.wp_at_zero Go.wp_at_succ

/-- A list, and an answer. -/
def GivesH (w : World) (Y : List Ar) (e x : Int) (r : Ending) (w' : World) : Prop := ∃ v', r = .returned (.tuple #[v', ansV e x]) ∧ Holds w' v' Y ∧ Below w.heap.size w w'

/-- The list that came, or one of its own, and an answer. -/
def GivesK (w : World) (v : Value) (X Y : List Ar) (e x : Int) (r : Ending) (w' : World) : Prop := ∃ v', r = .returned (.tuple #[v', ansV e x]) ∧ ((v' = v ∧ Y = X) ∨ Mine w.heap.size w' v' Y) ∧ Below w.heap.size w w'

/-! Pages as a list. -/
/-- The list of pages that lie in the space is a right list, with those pages. -/
theorem list_is {s : Sp} (hg : GoodS s) {Y : List Ar} (hY : RightL Y) (ht : ∀ p : Nat, p < 512 → 16 ≤ p → s p = tab Y p) : listTo s 512 = Y := by
  obtain ⟨T, hT⟩ : ∃ T : Nat, T = 512 := ⟨_, rfl⟩
  rw [← hT] at ht ⊢
  have hj := listTo_joined hg (n := T) (by omega)
  refine right_same hj.right hY fun p => ?_
  rw [hj.tab]
  by_cases h1 : p < T
  · by_cases h2 : 16 ≤ p
    · rw [pages_tab hg h1 h2, ht p h1 h2]
    · rw [pages_tab_out (.inl (by omega))]
      exact (tab_none fun a ha hc => by have := formed_num (right_formed hY a ha); unfold Cov at hc; omega).symm
  · rw [pages_tab_out (.inr (by omega))]
    exact (tab_none fun a ha hc => by have := formed_num (right_formed hY a ha); unfold Cov at hc; omega).symm
theorem spK_good {X : List Ar} (hX : RightL X) : GoodS (spK X X.length) := fun p x h => by
  unfold spK at h
  rw [List.take_length] at h
  obtain ⟨a, ha, hc, he⟩ := tab_some h
  rw [← he]
  exact at_good (right_formed hX a ha) hc
section
variable {w : World} {v : Value} {X Y : List Ar}
end
end Go.Proofs.Ytejkhnphplpkeaa

/-
  Layer 8: a space in a variable, with the calls behind it; variables that are written.
-/
namespace Go.Proofs.Ytejkhnphplpkeaa
open Go.ChangeShapes Go.WideShapes Go.ChangeAt Go.RowKit Go.Shelf
set_option linter.unusedVariables false

/-- While it is sought: the pages lie in a block. -/
structure ChAt (w wr : World) (q : Nat) (s : Sp) : Prop where
  s : SpIn wr q s
  bel : Below w.heap.size w wr
theorem ChAt.still {w wr w' : World} {q : Nat} {s : Sp} (h : ChAt w wr q s) (hb : Below wr.heap.size wr w') : ChAt w w' q s := ⟨Whole.below h.s hb (Whole.lt h.s), h.bel.trans (hb.mono h.bel.size)⟩
theorem ChAt.new {w w' : World} (hb : Below w.heap.size w w') (s : Sp) : ChAt w ((w'.alloc (.cells Try.zeroCells114 114)).setCells w'.heap.size 0 (spl s 512)) w'.heap.size s := by
  have hz : SpIn (w'.alloc (.cells Try.zeroCells114 114)) w'.heap.size (fun _ => none) := by
    rw [zero_spc]; exact Whole.new _ _ _
  have ho := only_many (q := w'.heap.size) (spl s 512) 0 (w'.alloc (.cells Try.zeroCells114 114))
  have h1 := below_then hb (below_new w' (.cells Try.zeroCells114 114)) (Nat.le_refl _)
  have hs := hb.size
  exact ⟨hz.all, h1.trans (ho.below (fun k hk => by omega) h1.size)⟩
theorem Bag.join {w wr : World} {l : List (Nat × TypeId × Array Value)} (h : Bag w wr l) {q : Nat} {t : TypeId} {cs : Array Value} (hq : Whole wr q t cs) : Bag w wr ((q, t, cs) :: l) :=
  ⟨fun x hx => (List.mem_cons.1 hx).elim (fun e => e ▸ hq) (fun hx => h.all x hx), h.bel⟩
end Go.Proofs.Ytejkhnphplpkeaa
