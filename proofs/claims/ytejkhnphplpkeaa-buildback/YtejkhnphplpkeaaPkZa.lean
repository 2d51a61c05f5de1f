/-
  Texts of our own, one behind the other (WkPure, WkMore): what the laws' proofs rest on; each says at its head what it holds. No conditions.
-/
import Derived.Test.YtejkhnphplpkeaaPkYc
import Derived.Test.YtejkhnphplpkeaaPkYf
/-
  Layer 17, pure: finding an address, and going through a tree, as programs that read; what they come to alone, over slots of words.
-/
namespace Go.Proofs.Ytejkhnphplpkeaa
open Go.RowKit
set_option linter.unusedVariables false

/-! Slots' words, by handles. -/
/-- The words of a handle's slot. -/
def wordsAt (ls : List (List Int)) (h : Int) : Option (List Int) := if h < 0 ∨ h % 65536 < 1 ∨ (ls.length : Int) < h % 65536 then none else some (ls.getD (h % 65536 - 1).toNat [])
/-- A memory in which c tells where the words of handles lie. -/
structure Tells2 (m : Mm) (c : Int → Int → Int) (ls : List (List Int)) : Prop where
  some : ∀ h x, wordsAt ls h = some x → Words m (c h) x
  none : ∀ h, wordsAt ls h = none → rdv m (c h 0) = 0

/-! Finding. -/
def findFrom (c : Int → Int → Int) (addr : Int) : Nat → Int → Sk (Int × Bool)
  | 0, _ => .ret (0, false)
  | n + 1, h => (lookP (c h) h addr).bind fun r => if r.2.2 then (if r.2.1 then findFrom c addr n r.1 else .ret (r.1, true)) else .ret (0, false)
/-- What it comes to: the answer, and how many accesses. -/
def findW (ls : List (List Int)) (addr : Int) : Nat → Int → (Int × Bool) × Nat
  | 0, _ => ((0, false), 0)
  | n + 1, h => match wordsAt ls h with
    | none => ((0, false), 1)
    | some x => if (lookW x addr).1.2.2 then (if (lookW x addr).1.2.1 then ((findW ls addr n (lookW x addr).1.1).1, (lookW x addr).2 + (findW ls addr n (lookW x addr).1.1).2) else (((lookW x addr).1.1, true), (lookW x addr).2)) else ((0, false), (lookW x addr).2)
section
variable {m : Mm} {c : Int → Int → Int} {ls : List (List Int)}
theorem look_none {h : Int} (addr : Int) (h0 : rdv m (c h 0) = 0) : (lookP (c h) h addr).ans m = (0, false, false) ∧ ((lookP (c h) h addr).reads m).length = 1 := by
  unfold lookP
  simp only [Sk.ans, Sk.reads, h0]
  have e : entOk 0 = false := by decide
  rw [e]
  exact ⟨rfl, rfl⟩
theorem node_none {h : Int} (h0 : rdv m (c h 0) = 0) : (nodeP (c h) h).ans m = none ∧ ((nodeP (c h) h).reads m).length = 1 := by
  unfold nodeP
  simp only [Sk.ans, Sk.reads, h0]
  have e : entOk 0 = false := by decide
  rw [e]
  exact ⟨rfl, rfl⟩
theorem find_ans (M : Tells2 m c ls) (addr : Int) (n : Nat) (h : Int) : (findFrom c addr n h).ans m = (findW ls addr n h).1 ∧ ((findFrom c addr n h).reads m).length = (findW ls addr n h).2 := by
  induction n generalizing h with
  | zero => exact ⟨rfl, rfl⟩
  | succ n ih =>
    unfold findFrom findW
    rw [Sk.ans_bind, Sk.reads_bind]
    cases hw : wordsAt ls h with
    | none =>
      obtain ⟨e1, e2⟩ := look_none (h := h) addr (M.none h hw)
      rw [e1]
      simp only [Bool.false_eq_true, if_false, Sk.ans, Sk.reads, List.append_nil]
      exact ⟨trivial, e2⟩
    | some x =>
      obtain ⟨e1, e2, _⟩ := look_ans (h := h) (M.some h x hw) addr
      rw [e1, List.length_append, e2]
      simp only
      cases h1 : (lookW x addr).1.2.2 with
      | false => exact ⟨rfl, rfl⟩
      | true =>
        simp only [if_true]
        cases h2 : (lookW x addr).1.2.1 with
        | false => exact ⟨rfl, rfl⟩
        | true =>
          simp only [if_true]
          obtain ⟨i1, i2⟩ := ih (lookW x addr).1.1
          exact ⟨i1, by rw [i2]⟩
end
theorem lookW_most (x : List Int) (addr : Int) : 0 < (lookW x addr).2 ∧ (lookW x addr).2 ≤ 10 := by
  have key : ∀ n i inn, i + n ≤ 8 → 0 < (lookFromW x addr inn n i).2 ∧ (lookFromW x addr inn n i).2 ≤ 10 := by
    intro n
    induction n with
    | zero => intro i inn h; simp only [lookFromW]; omega
    | succ n ih =>
      intro i inn h
      simp only [lookFromW]
      split
      · exact ih (i + 1) inn (by omega)
      · simp only; omega
  unfold lookW
  split
  · exact key _ _ _ (by have := entK_hi (nth x 0); omega)
  · simp
theorem findW_most (ls : List (List Int)) (addr : Int) (n : Nat) (h : Int) : (findW ls addr n h).2 ≤ 10 * n := by
  induction n generalizing h with
  | zero => simp [findW]
  | succ n ih =>
    unfold findW
    split
    · simp only; omega
    · rename_i x _
      have h1 := lookW_most x addr
      have h2 := ih (lookW x addr).1.1
      split
      · split
        · simp only; omega
        · simp only; omega
      · simp only; omega
theorem findW_some (ls : List (List Int)) (addr : Int) (n : Nat) (h : Int) : 0 < (findW ls addr (n + 1) h).2 := by
  unfold findW
  split
  · simp
  · rename_i x _
    have h1 := lookW_most x addr
    split
    · split
      · simp only; omega
      · simp only; omega
    · simp only; omega

/-! Going through. -/
/-- An entry that is told. -/
structure En where
  lo : Int
  hi : Int
  h : Int
/-- What was gone through: the entries, the nodes' handles. -/
structure Thru where
  es : List En
  ns : List Int
/-- Through a node's entries (its ends and handles): f goes through what is below an inner one's. -/
def thruE (f : Int → Thru → Sk (Option Thru)) (inner : Bool) : Int → List (Int × Int) → Thru → Sk (Option Thru)
  | _, [], s => .ret (some s)
  | lo, (e, h) :: l, s => if inner then (f h s).bind fun r => match r with
      | none => .ret none
      | some s' => thruE f inner e l s'
    else thruE f inner e l ⟨s.es ++ [⟨lo, e, h⟩], s.ns⟩
/-- Through a tree, at most so high. -/
noncomputable def thru (c : Int → Int → Int) : Nat → Int → Thru → Sk (Option Thru)
  | 0, _, _ => .ret none
  | k + 1, h, s => if s.ns.length = 64 then .ret none else (nodeP (c h) h).bind fun r => match r with
      | none => .ret none
      | some n => thruE (thru c k) n.inner n.lo (n.ends.zip n.slots) ⟨s.es, s.ns ++ [h]⟩
/-- What both come to: what was gone through, and how many accesses. -/
def thruEW (f : Int → Thru → Option Thru × Nat) (inner : Bool) : Int → List (Int × Int) → Thru → Option Thru × Nat
  | _, [], s => (some s, 0)
  | lo, (e, h) :: l, s => if inner then (match (f h s).1 with
      | none => (none, (f h s).2)
      | some s' => ((thruEW f inner e l s').1, (f h s).2 + (thruEW f inner e l s').2))
    else thruEW f inner e l ⟨s.es ++ [⟨lo, e, h⟩], s.ns⟩
noncomputable def thruW (ls : List (List Int)) : Nat → Int → Thru → Option Thru × Nat
  | 0, _, _ => (none, 0)
  | k + 1, h, s => if s.ns.length = 64 then (none, 0) else match wordsAt ls h with
    | none => (none, 1)
    | some x => match (nodeW x).1 with
      | none => (none, (nodeW x).2)
      | some n => ((thruEW (thruW ls k) n.inner n.lo (n.ends.zip n.slots) ⟨s.es, s.ns ++ [h]⟩).1, (nodeW x).2 + (thruEW (thruW ls k) n.inner n.lo (n.ends.zip n.slots) ⟨s.es, s.ns ++ [h]⟩).2)
section
variable {m : Mm} {c : Int → Int → Int} {ls : List (List Int)}
theorem thruE_ans {f : Int → Thru → Sk (Option Thru)} {g : Int → Thru → Option Thru × Nat} (hf : ∀ h s, (f h s).ans m = (g h s).1 ∧ ((f h s).reads m).length = (g h s).2) (inner : Bool) (lo : Int) (l : List (Int × Int)) (s : Thru) :
    (thruE f inner lo l s).ans m = (thruEW g inner lo l s).1 ∧ ((thruE f inner lo l s).reads m).length = (thruEW g inner lo l s).2 := by
  induction l generalizing lo s with
  | nil => exact ⟨rfl, rfl⟩
  | cons q l ih =>
    obtain ⟨e, h⟩ := q
    unfold thruE thruEW
    cases inner with
    | false => simp only [Bool.false_eq_true, if_false]; exact ih e ⟨s.es ++ [⟨lo, e, h⟩], s.ns⟩
    | true =>
      simp only [if_true]
      obtain ⟨h1, h2⟩ := hf h s
      rw [Sk.ans_bind, Sk.reads_bind, List.length_append, h1, h2]
      cases hg : (g h s).1 with
      | none => exact ⟨rfl, rfl⟩
      | some s' =>
        simp only
        obtain ⟨i1, i2⟩ := ih e s'
        exact ⟨i1, by rw [i2]⟩
theorem thru_ans (M : Tells2 m c ls) (k : Nat) (h : Int) (s : Thru) : (thru c k h s).ans m = (thruW ls k h s).1 ∧ ((thru c k h s).reads m).length = (thruW ls k h s).2 := by
  induction k generalizing h s with
  | zero => exact ⟨rfl, rfl⟩
  | succ k ih =>
    unfold thru thruW
    by_cases h64 : s.ns.length = 64
    · rw [if_pos h64, if_pos h64]; exact ⟨rfl, rfl⟩
    · rw [if_neg h64, if_neg h64, Sk.ans_bind, Sk.reads_bind, List.length_append]
      cases hw : wordsAt ls h with
      | none =>
        obtain ⟨e1, e2⟩ := node_none (h := h) (M.none h hw)
        rw [e1, e2]
        exact ⟨rfl, rfl⟩
      | some x =>
        obtain ⟨e1, e2⟩ := node_ans (h := h) (M.some h x hw)
        rw [e1, e2]
        simp only
        cases hn : (nodeW x).1 with
        | none => exact ⟨rfl, rfl⟩
        | some n =>
          simp only
          obtain ⟨i1, i2⟩ := thruE_ans (m := m) ih n.inner n.lo (n.ends.zip n.slots) ⟨s.es, s.ns ++ [h]⟩
          exact ⟨i1, by rw [i2]⟩
end
theorem nodeW_most (x : List Int) : 0 < (nodeW x).2 ∧ (nodeW x).2 ≤ 26 := by
  unfold nodeW
  have := entK_hi (nth x 0)
  split
  · simp only; omega
  · simp
/-- How much may be gone through: 64 nodes, 26 accesses each; and what comes has no more nodes. -/
structure Bound (s : Thru) (r : Option Thru × Nat) : Prop where
  most : r.2 ≤ 26 * (64 - s.ns.length)
  then_ : ∀ s', r.1 = some s' → s'.ns.length ≤ 64 ∧ s.ns.length ≤ s'.ns.length ∧ r.2 ≤ 26 * (s'.ns.length - s.ns.length)
theorem thruE_most {g : Int → Thru → Option Thru × Nat} (hg : ∀ h s, s.ns.length ≤ 64 → Bound s (g h s)) (inner : Bool) (lo : Int) (l : List (Int × Int)) (s : Thru) (hs : s.ns.length ≤ 64) : Bound s (thruEW g inner lo l s) := by
  induction l generalizing lo s with
  | nil =>
    unfold thruEW
    refine ⟨by simp only; omega, fun s' e => ?_⟩
    simp only at e
    injection e with e
    subst e
    simp only
    omega
  | cons q l ih =>
    obtain ⟨e, h⟩ := q
    unfold thruEW
    cases inner with
    | false =>
      simp only [Bool.false_eq_true, if_false]
      have := ih e ⟨s.es ++ [⟨lo, e, h⟩], s.ns⟩ hs
      exact ⟨this.most, this.then_⟩
    | true =>
      simp only [if_true]
      have b := hg h s hs
      cases hr : (g h s).1 with
      | none => exact ⟨b.most, fun s' e => by cases e⟩
      | some s1 =>
        have b1 := b.then_ s1 hr
        have b2 := ih e s1 b1.1
        refine ⟨?_, fun s' e' => ?_⟩
        · have := b2.most
          simp only
          omega
        · simp only at e'
          have b3 := b2.then_ s' e'
          simp only
          omega
theorem thru_most (ls : List (List Int)) (k : Nat) (h : Int) (s : Thru) (hs : s.ns.length ≤ 64) : Bound s (thruW ls k h s) := by
  induction k generalizing h s with
  | zero => exact ⟨by simp [thruW], fun s' e => by simp [thruW] at e⟩
  | succ k ih =>
    unfold thruW
    by_cases h64 : s.ns.length = 64
    · rw [if_pos h64]; exact ⟨by simp, fun s' e => by simp at e⟩
    · rw [if_neg h64]
      cases hw : wordsAt ls h with
      | none => exact ⟨by simp only; omega, fun s' e => by simp at e⟩
      | some x =>
        have hm := nodeW_most x
        simp only
        cases hn : (nodeW x).1 with
        | none => exact ⟨by simp only; omega, fun s' e => by simp at e⟩
        | some n =>
          simp only
          have b := thruE_most (g := thruW ls k) (fun h s hs => ih h s hs) n.inner n.lo (n.ends.zip n.slots) ⟨s.es, s.ns ++ [h]⟩ (by simp; omega)
          have hl : (⟨s.es, s.ns ++ [h]⟩ : Thru).ns.length = s.ns.length + 1 := by simp
          refine ⟨?_, fun s' e => ?_⟩
          · have := b.most
            rw [hl] at this
            simp only
            omega
          · have := b.then_ s' e
            rw [hl] at this
            simp only
            omega

/-! The laws' slots, however many. -/
def manyM (ls : List (List Int)) (cnt : Int) : Mm := ⟨fillTo ls.flatten (28 * ls.length), cnt⟩
theorem many_len {ls : List (List Int)} (h : All28 ls) (cnt : Int) : (manyM ls cnt).cs.length = 3 + 28 * ls.length := by
  show (fillTo ls.flatten (28 * ls.length)).length = _
  rw [fillTo_len _ (by rw [flat_len h]; omega), flat_len h]
theorem slot_is (h : Int) : slotOf h = if h < 0 then 0 else h % 65536 := rfl
theorem wordsAt_some {ls : List (List Int)} {h : Int} {x : List Int} (e : wordsAt ls h = some x) : ∃ i : Nat, i < ls.length ∧ slotOf h = (i : Int) + 1 ∧ x = ls.getD i [] := by
  unfold wordsAt at e
  split at e
  · cases e
  · rename_i hc
    injection e with e
    have h1 : ¬ h < 0 := fun h => hc (.inl h)
    have h2 : ¬ h % 65536 < 1 := fun h => hc (.inr (.inl h))
    have h3 : ¬ (ls.length : Int) < h % 65536 := fun h => hc (.inr (.inr h))
    refine ⟨(h % 65536 - 1).toNat, by omega, ?_, e.symm⟩
    rw [slot_is, if_neg h1]
    omega
theorem wordsAt_none {ls : List (List Int)} {h : Int} (e : wordsAt ls h = none) : ¬ (1 ≤ slotOf h ∧ slotOf h ≤ (ls.length : Int)) := by
  unfold wordsAt at e
  split at e
  · rename_i hc
    rw [slot_is]
    split
    · omega
    · omega
  · cases e
theorem many_tells {ls : List (List Int)} (h28 : All28 ls) (cnt : Int) : Tells2 (manyM ls cnt) (fun h => cellOf 3 ls.length h) ls := by
  have hl := many_len h28 cnt
  have hfl := flat_len h28
  refine ⟨fun h x e => ?_, fun h e => ?_⟩
  · obtain ⟨i, hi, hs, rfl⟩ := wordsAt_some e
    have hx := h28 i hi
    have hc : ∀ k : Nat, k < 28 → cellOf 3 ls.length h (k : Int) = 3 + 28 * (i : Int) + (k : Int) := fun k hk => by
      unfold cellOf
      rw [hs, if_pos (by omega)]
      omega
    have hin : ∀ k : Nat, k < 28 → inb (3 + 28 * (i : Int) + (k : Int)) (manyM ls cnt) = true := fun k hk => by
      unfold inb
      rw [hl]
      refine decide_eq_true ⟨by omega, ?_⟩
      have : 28 * (i : Int) + 28 ≤ 28 * (ls.length : Int) := by omega
      push_cast
      omega
    refine ⟨fun k hk => ?_, fun k hk => ?_, hx⟩
    · show rdv (manyM ls cnt) (cellOf 3 ls.length h (k : Int)) = _
      rw [hc k hk]
      unfold rdv
      rw [hin k hk, if_pos rfl]
      show nth (fillTo ls.flatten (28 * ls.length)) _ = _
      rw [show (3 + 28 * (i : Int) + (k : Int)).toNat = 3 + (28 * i + k) by omega, nth_fillTo _ (by omega), if_neg (by omega), if_pos (by omega), show 3 + (28 * i + k) - 3 = 28 * i + k by omega, nth_flat h28 i k hi hk]
    · show inb (cellOf 3 ls.length h (k : Int)) _ = true
      rw [hc k hk]; exact hin k hk
  · have hn := wordsAt_none e
    show rdv (manyM ls cnt) (cellOf 3 ls.length h 0) = 0
    unfold cellOf
    rw [if_neg (by omega)]
    unfold rdv inb
    simp
theorem many_fits {ls : List (List Int)} (h28 : All28 ls) (hf : ∀ i, i < ls.length → Fits (ls.getD i [])) (cnt : Int) : Fits (manyM ls cnt).cs := by
  have hfl := flat_len h28
  intro j hj
  show -9223372036854775808 ≤ nth (fillTo ls.flatten (28 * ls.length)) j ∧ nth (fillTo ls.flatten (28 * ls.length)) j ≤ _
  rw [nth_fillTo _ (by omega)]
  split
  · omega
  · split
    · rename_i h1 h2
      have e : j - 3 = 28 * ((j - 3) / 28) + (j - 3) % 28 := by omega
      rw [e, nth_flat h28 _ _ (by omega) (by omega)]
      exact fits_nth (hf _ (by omega)) _
    · omega
/-- Which handles are right: 65536 and their numbers more. -/
theorem many_right {n : Nat} (st : Bool) (h : Int) : rightB (wiOf n st).l h = true ↔ ∃ i, i < n ∧ h = 65537 + (i : Int) := by
  constructor
  · intro hr
    unfold rightB at hr
    obtain ⟨i, hi, _, he⟩ := of_decide_eq_true hr
    have hl : (wiOf n st).l.length = n := bornTo_len (Nat.le_refl _)
    have hin : i < n := by omega
    refine ⟨i, hin, ?_⟩
    have g : (wiOf n st).l.getD i (0, false) = (1, true) := by unfold wiOf; rw [bornTo_at (Nat.le_refl _), if_pos hin]
    unfold hndAt genAt at he
    rw [g] at he
    omega
  · rintro ⟨i, hi, rfl⟩
    exact wiOf_right st i hi
end Go.Proofs.Ytejkhnphplpkeaa

/-
  Layer 17, pure: whose handles are read; a leaf; a tree that goes round.
-/
namespace Go.Proofs.Ytejkhnphplpkeaa
open Go.RowKit
set_option linter.unusedVariables false

section
variable {m : Mm} {c : Int → Int → Int} {ls : List (List Int)}
theorem lookFrom_h (d : Int → Int) (h addr : Int) (inn : Bool) (n i : Nat) : ∀ q ∈ (lookFrom d h addr inn n i).reads m, q.2 = h := by
  induction n generalizing i with
  | zero => intro q hq; simp [lookFrom, Sk.reads] at hq
  | succ n ih =>
    intro q hq
    unfold lookFrom at hq
    simp only [Sk.reads] at hq
    rcases List.mem_cons.1 hq with rfl | hq
    · rfl
    · split at hq
      · exact ih (i + 1) q hq
      · simp only [Sk.reads, List.mem_cons, List.not_mem_nil, or_false] at hq
        rw [hq]
theorem look_h (d : Int → Int) (h addr : Int) : ∀ q ∈ (lookP d h addr).reads m, q.2 = h := by
  intro q hq
  unfold lookP at hq
  simp only [Sk.reads] at hq
  rcases List.mem_cons.1 hq with rfl | hq
  · rfl
  · split at hq
    · exact lookFrom_h d h addr _ _ _ q hq
    · simp [Sk.reads] at hq
theorem nodeFrom_h (d : Int → Int) (h : Int) (n i : Nat) (l : List Int) : ∀ q ∈ (nodeFrom d h n i l).reads m, q.2 = h := by
  induction n generalizing i l with
  | zero => intro q hq; simp [nodeFrom_end, Sk.reads] at hq
  | succ n ih =>
    intro q hq
    rw [nodeFrom_next] at hq
    simp only [Sk.reads] at hq
    rcases List.mem_cons.1 hq with rfl | hq
    · rfl
    · rcases List.mem_cons.1 hq with rfl | hq
      · rfl
      · rcases List.mem_cons.1 hq with rfl | hq
        · rfl
        · exact ih _ _ q hq
theorem node_h (d : Int → Int) (h : Int) : ∀ q ∈ (nodeP d h).reads m, q.2 = h := by
  intro q hq
  unfold nodeP at hq
  simp only [Sk.reads] at hq
  rcases List.mem_cons.1 hq with rfl | hq
  · rfl
  · split at hq
    · simp only [Sk.reads] at hq
      rcases List.mem_cons.1 hq with rfl | hq
      · rfl
      · exact nodeFrom_h d h _ _ _ q hq
    · simp [Sk.reads] at hq
/-- Only handles of S are read, where S has what stands in the nodes of its own. -/
theorem find_h (M : Tells2 m c ls) (S : Int → Prop) (addr : Int) (hS : ∀ h x, S h → wordsAt ls h = some x → (lookW x addr).1.2.2 = true → (lookW x addr).1.2.1 = true → S (lookW x addr).1.1) (n : Nat) (h : Int) (h0 : S h) : ∀ q ∈ (findFrom c addr n h).reads m, S q.2 := by
  induction n generalizing h with
  | zero => intro q hq; simp [findFrom, Sk.reads] at hq
  | succ n ih =>
    intro q hq
    unfold findFrom at hq
    rw [Sk.reads_bind] at hq
    rcases List.mem_append.1 hq with hq | hq
    · rw [look_h _ _ _ q hq]; exact h0
    · cases hw : wordsAt ls h with
      | none =>
        obtain ⟨e1, _⟩ := look_none (h := h) addr (M.none h hw)
        rw [e1] at hq
        simp [Sk.reads] at hq
      | some x =>
        obtain ⟨e1, _, _⟩ := look_ans (h := h) (M.some h x hw) addr
        rw [e1] at hq
        cases h1 : (lookW x addr).1.2.2 with
        | false => rw [h1] at hq; simp [Sk.reads] at hq
        | true =>
          cases h2 : (lookW x addr).1.2.1 with
          | false => rw [h1, h2] at hq; simp [Sk.reads] at hq
          | true =>
            rw [h1, h2] at hq
            simp only [if_true] at hq
            exact ih _ (hS h x h0 hw h1 h2) q hq
theorem thruE_h {f : Int → Thru → Sk (Option Thru)} (S : Int → Prop) (hf : ∀ h s, S h → ∀ q ∈ (f h s).reads m, S q.2) (inner : Bool) (lo : Int) (l : List (Int × Int)) (s : Thru) (hl : inner = true → ∀ q ∈ l, S q.2) : ∀ q ∈ (thruE f inner lo l s).reads m, S q.2 := by
  induction l generalizing lo s with
  | nil => intro q hq; simp [thruE, Sk.reads] at hq
  | cons p l ih =>
    obtain ⟨e, h⟩ := p
    intro q hq
    unfold thruE at hq
    cases inner with
    | false =>
      simp only [Bool.false_eq_true, if_false] at hq
      exact ih _ _ (fun h => by cases h) q hq
    | true =>
      simp only [if_true] at hq
      rw [Sk.reads_bind] at hq
      rcases List.mem_append.1 hq with hq | hq
      · exact hf h s (hl rfl (e, h) (by simp)) q hq
      · cases hr : (f h s).ans m with
        | none => rw [hr] at hq; simp [Sk.reads] at hq
        | some s' => rw [hr] at hq; exact ih _ _ (fun _ q hq => hl rfl q (by simp [hq])) q hq
theorem thru_h (M : Tells2 m c ls) (S : Int → Prop) (hS : ∀ h x n, S h → wordsAt ls h = some x → (nodeW x).1 = some n → n.inner = true → ∀ s ∈ n.slots, S s) (k : Nat) (h : Int) (s : Thru) (h0 : S h) : ∀ q ∈ (thru c k h s).reads m, S q.2 := by
  induction k generalizing h s with
  | zero => intro q hq; simp [thru, Sk.reads] at hq
  | succ k ih =>
    intro q hq
    unfold thru at hq
    by_cases h64 : s.ns.length = 64
    · rw [if_pos h64] at hq; simp [Sk.reads] at hq
    · rw [if_neg h64, Sk.reads_bind] at hq
      rcases List.mem_append.1 hq with hq | hq
      · rw [node_h _ _ q hq]; exact h0
      · cases hw : wordsAt ls h with
        | none =>
          obtain ⟨e1, _⟩ := node_none (h := h) (M.none h hw)
          rw [e1] at hq
          simp [Sk.reads] at hq
        | some x =>
          obtain ⟨e1, _⟩ := node_ans (h := h) (M.some h x hw)
          rw [e1] at hq
          cases hn : (nodeW x).1 with
          | none => rw [hn] at hq; simp [Sk.reads] at hq
          | some n =>
            rw [hn] at hq
            exact thruE_h S (fun h s h0 => ih h s h0) n.inner n.lo _ _ (fun hi q hq => hS h x n h0 hw hn hi q.2 (List.of_mem_zip hq).2) q hq
end

/-! A leaf. -/
def leafE : Int → List (Int × Int) → List En
  | _, [] => []
  | lo, (e, h) :: l => ⟨lo, e, h⟩ :: leafE e l
theorem thru_leaf (f : Int → Thru → Option Thru × Nat) (lo : Int) (l : List (Int × Int)) (s : Thru) : thruEW f false lo l s = (some ⟨s.es ++ leafE lo l, s.ns⟩, 0) := by
  induction l generalizing lo s with
  | nil => simp [thruEW, leafE]
  | cons q l ih =>
    obtain ⟨e, h⟩ := q
    unfold thruEW
    simp only [Bool.false_eq_true, if_false]
    rw [ih]
    simp [leafE]
theorem leafE_len (lo : Int) (l : List (Int × Int)) : (leafE lo l).length = l.length := by
  induction l generalizing lo with
  | nil => rfl
  | cons q l ih => obtain ⟨e, h⟩ := q; simp [leafE, ih]
theorem leafE_at (lo : Int) (l : List (Int × Int)) (i : Nat) (hi : i < l.length) : (leafE lo l).getD i ⟨0, 0, 0⟩ = ⟨if i = 0 then lo else (l.getD (i - 1) (0, 0)).1, (l.getD i (0, 0)).1, (l.getD i (0, 0)).2⟩ := by
  induction l generalizing lo i with
  | nil => simp at hi
  | cons q l ih =>
    obtain ⟨e, h⟩ := q
    match i with
    | 0 => simp [leafE]
    | i + 1 =>
      have := ih e i (by simpa using hi)
      simp only [leafE, List.getD_cons_succ]
      rw [this]
      match i with
      | 0 => simp
      | i + 1 => simp
/-- A formed leaf, alone in a slot: what is gone through. -/
theorem thru_one {n : Nd} (hF : NdF n) (hi : n.inner = false) : thruW [packN n] 8 65537 ⟨[], []⟩ = (some ⟨leafE n.lo (n.ends.zip n.slots), [65537]⟩, 2 + 3 * n.ends.length) := by
  have hw : wordsAt [packN n] 65537 = some (packN n) := by
    unfold wordsAt
    rw [if_neg (by simp)]
    rfl
  have e := nodeW_pack hF
  unfold thruW
  rw [if_neg (by simp), hw]
  simp only
  rw [e]
  simp only
  rw [hi, thru_leaf]
  simp

/-! A tree that goes round. -/
theorem thru_round {ls : List (List Int)} {h : Int} {x : List Int} {n : Nd} (hw : wordsAt ls h = some x) (hn : (nodeW x).1 = some n) (hi : n.inner = true) (h0 : 0 < n.ends.length) (hs : n.slots.length = n.ends.length) (hh : ∀ s ∈ n.slots, s = h) (k : Nat) (s : Thru) : (thruW ls k h s).1 = none := by
  induction k generalizing s with
  | zero => rfl
  | succ k ih =>
    unfold thruW
    by_cases h64 : s.ns.length = 64
    · rw [if_pos h64]
    · rw [if_neg h64, hw]
      simp only
      rw [hn]
      simp only
      obtain ⟨inner, lo, ends, slots, gaps⟩ := n
      simp only at hi h0 hs hh ⊢
      subst hi
      match ends, slots, h0, hs with
      | e :: ends, t :: slots, _, _ =>
        have ht : t = h := hh t (by simp)
        subst ht
        simp only [List.zip_cons_cons]
        unfold thruEW
        simp only [if_true]
        rw [ih]
theorem find_round {ls : List (List Int)} {h addr : Int} {x : List Int} (hw : wordsAt ls h = some x) (hl : (lookW x addr).1.2.2 = true → (lookW x addr).1.2.1 = true ∧ (lookW x addr).1.1 = h) (n : Nat) : (findW ls addr n h).1.2 = false := by
  induction n with
  | zero => rfl
  | succ n ih =>
    unfold findW
    rw [hw]
    simp only
    cases h1 : (lookW x addr).1.2.2 with
    | false => rfl
    | true =>
      obtain ⟨h2, h3⟩ := hl h1
      simp only [if_true, h2, h3]
      exact ih
theorem thruW_some (ls : List (List Int)) (k : Nat) (h : Int) : 0 < (thruW ls (k + 1) h ⟨[], []⟩).2 ∧ (thruW ls (k + 1) h ⟨[], []⟩).2 ≤ 1664 := by
  refine ⟨?_, ?_⟩
  · unfold thruW
    rw [if_neg (by simp)]
    cases hw : wordsAt ls h with
    | none => simp
    | some x =>
      have hm := nodeW_most x
      simp only
      cases hn : (nodeW x).1 with
      | none => simp only; omega
      | some n => simp only; omega
  · have := (thru_most ls (k + 1) h ⟨[], []⟩ (by simp)).most
    simp only [List.length_nil] at this
    omega
end Go.Proofs.Ytejkhnphplpkeaa
