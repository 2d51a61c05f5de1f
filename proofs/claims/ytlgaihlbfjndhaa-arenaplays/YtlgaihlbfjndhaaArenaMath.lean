/-
  Layer 2, plain: slots and handles as numbers, what is known of slots as a list, and what is right.
-/
import Derived.Test.YtlgaihlbfjndhaaOwn
import Derived.Laws.BitsLemmas
namespace Go.Proofs.Ytlgaihlbfjndhaa
open Go.RowKit

/-- The slot's number of a handle. -/
def slotOf (h : Int) : Int := if h < 0 then 0 else h % 65536
theorem slotOf_lo (h : Int) : 0 ≤ slotOf h := by unfold slotOf; split <;> omega
theorem slotOf_hi (h : Int) : slotOf h < 65536 := by unfold slotOf; split <;> omega
theorem slotOf_neg {h : Int} (hh : h < 0) : slotOf h = 0 := if_pos hh
theorem slotOf_pos {h : Int} (hh : 0 ≤ h) : slotOf h = h % 65536 := if_neg (by omega)

theorem wraps_i64 (n : Int) (h₀ : 0 ≤ n) (h₁ : n < 2 ^ 63) : IntKind.i64.wrap n = n := by rw [IntKind.wrap_i64]; omega
theorem and_low {h : Int} (h0 : 0 ≤ h) (h1 : h ≤ 9223372036854775807) : bits BinOp.and IntKind.i64 h 65535 = h % 65536 :=
  bits_mask .i64 63 (by decide) wraps_i64 16 (by decide) h h0 (by omega)
theorem or_up {g s : Int} (h0 : 0 ≤ g) (h1 : g ≤ 1099511627776) (h2 : 0 ≤ s) (h3 : s < 65536) : bits BinOp.or IntKind.i64 (g * 65536) s = g * 65536 + s :=
  bits_join .i64 63 (by decide) wraps_i64 16 (g * 65536) s (by omega) (by omega) (by omega) h2 h3 (by omega)

theorem getD_in {α : Type} {l : List α} {i : Nat} (d : α) (h : i < l.length) : l.getD i d = l[i] := by simp [List.getD_eq_getElem?_getD, h]
theorem getD_out {α : Type} {l : List α} {i : Nat} (d : α) (h : l.length ≤ i) : l.getD i d = d := by simp [List.getD_eq_getElem?_getD, h]

/-- What is known of slots: of each its generation, and whether it is live. -/
abbrev Slots := List (Int × Bool)
/-- Of place i. -/
def genAt (l : Slots) (i : Nat) : Int := (l.getD i (0, false)).1
def liveAt (l : Slots) (i : Nat) : Bool := (l.getD i (0, false)).2
/-- The handle of place i. -/
def hndAt (l : Slots) (i : Nat) : Int := genAt l i * 65536 + ((i : Int) + 1)
/-- Generations are no less than 0, and no more than G. -/
def Gens (l : Slots) (G : Int) : Prop := ∀ p ∈ l, 0 ≤ p.1 ∧ p.1 ≤ G
/-- The place of a handle that is right, if there is one. -/
def rightB (l : Slots) (h : Int) : Bool := decide (∃ i, i < l.length ∧ liveAt l i = true ∧ hndAt l i = h)
/-- A birth at place i. -/
def bornAt (l : Slots) (i : Nat) : Slots := l.set i (genAt l i + 1, true)
/-- A death at place i. -/
def diedAt (l : Slots) (i : Nat) : Slots := l.set i (genAt l i, false)
/-- The handles that are right, of the places from k on. -/
def liveFrom (l : Slots) (k n : Nat) : List Int := (List.range' k n).filterMap fun i => if liveAt l i then some (hndAt l i) else none
def liveTo (l : Slots) (k : Nat) : List Int := liveFrom l 0 k

theorem liveTo_zero (l : Slots) : liveTo l 0 = [] := rfl
theorem liveTo_succ (l : Slots) (k : Nat) : liveTo l (k + 1) = liveTo l k ++ (if liveAt l k then [hndAt l k] else []) := by
  unfold liveTo liveFrom
  rw [List.range'_1_concat, List.filterMap_append, Nat.zero_add]
  congr 1
  by_cases h : liveAt l k = true <;> simp [h]
theorem liveTo_yes {l : Slots} {k : Nat} (h : liveAt l k = true) : liveTo l (k + 1) = liveTo l k ++ [hndAt l k] := by rw [liveTo_succ, if_pos h]
theorem liveTo_no {l : Slots} {k : Nat} (h : liveAt l k = false) : liveTo l (k + 1) = liveTo l k := by rw [liveTo_succ, if_neg (by simp [h]), List.append_nil]
theorem liveTo_le (l : Slots) (k : Nat) : (liveTo l k).length ≤ k := by
  unfold liveTo liveFrom
  have := List.length_filterMap_le (fun i => if liveAt l i then some (hndAt l i) else none) (List.range' 0 k)
  rw [List.length_range'] at this
  exact this
theorem liveTo_prefix (l : Slots) : ∀ {k n : Nat}, k ≤ n → ∃ r, liveTo l n = liveTo l k ++ r := by
  intro k n h
  induction n with
  | zero => obtain rfl : k = 0 := by omega
            exact ⟨[], by simp⟩
  | succ n ih =>
    by_cases hk : k = n + 1
    · subst hk; exact ⟨[], by simp⟩
    · obtain ⟨r, hr⟩ := ih (by omega)
      exact ⟨r ++ (if liveAt l n then [hndAt l n] else []), by rw [liveTo_succ, hr, List.append_assoc]⟩
/-- The handle of a place that is live stands where it should. -/
theorem liveTo_at {l : Slots} {k n : Nat} (h : liveAt l k = true) (hk : k < n) : (liveTo l k).length < (liveTo l n).length ∧ nth (liveTo l n) (liveTo l k).length = hndAt l k := by
  obtain ⟨r, hr⟩ := liveTo_prefix l (show k + 1 ≤ n by omega)
  rw [liveTo_yes h] at hr
  rw [hr]
  refine ⟨by simp only [List.length_append, List.length_cons, List.length_nil]; omega, ?_⟩
  unfold nth
  simp

theorem gen_mem {l : Slots} {G : Int} (h : Gens l G) (i : Nat) (hG : 0 ≤ G) : 0 ≤ genAt l i ∧ genAt l i ≤ G := by
  unfold genAt
  by_cases hi : i < l.length
  · rw [getD_in _ hi]; exact h _ (List.getElem_mem hi)
  · rw [getD_out _ (by omega)]; exact ⟨by simp, hG⟩
theorem gens_mono {l : Slots} {G G' : Int} (h : Gens l G) (hG : G ≤ G') : Gens l G' := fun p hp => ⟨(h p hp).1, by have := (h p hp).2; omega⟩
theorem gens_born {l : Slots} {G : Int} (h : Gens l G) (hG : 0 ≤ G) (i : Nat) : Gens (bornAt l i) (G + 1) := by
  intro p hp
  rcases List.mem_or_eq_of_mem_set hp with hp | rfl
  · have := h p hp; omega
  · have := gen_mem h i hG; simp only; omega
theorem gens_died {l : Slots} {G : Int} (h : Gens l G) (hG : 0 ≤ G) (i : Nat) : Gens (diedAt l i) G := by
  intro p hp
  rcases List.mem_or_eq_of_mem_set hp with hp | rfl
  · exact h p hp
  · exact gen_mem h i hG
theorem born_length (l : Slots) (i : Nat) : (bornAt l i).length = l.length := by simp [bornAt]
theorem died_length (l : Slots) (i : Nat) : (diedAt l i).length = l.length := by simp [diedAt]
theorem gens_new (n : Nat) : Gens (List.replicate n (0, false)) 0 := by
  intro p hp
  rw [(List.mem_replicate.1 hp).2]; simp
theorem genAt_new (n i : Nat) : genAt (List.replicate n (0, false)) i = 0 := by
  unfold genAt
  by_cases hi : i < n
  · rw [getD_in _ (by simpa using hi)]; simp
  · rw [getD_out _ (by simp; omega)]
theorem liveAt_new (n i : Nat) : liveAt (List.replicate n (0, false)) i = false := by
  unfold liveAt
  by_cases hi : i < n
  · rw [getD_in _ (by simpa using hi)]; simp
  · rw [getD_out _ (by simp; omega)]
theorem genAt_set (l : Slots) (i j : Nat) (p : Int × Bool) (hi : i < l.length) : genAt (l.set i p) j = if j = i then p.1 else genAt l j := by
  unfold genAt
  by_cases h : j = i
  · subst h; simp [List.getD_eq_getElem?_getD, hi]
  · simp [List.getD_eq_getElem?_getD, Ne.symm h, h]
theorem liveAt_set (l : Slots) (i j : Nat) (p : Int × Bool) (hi : i < l.length) : liveAt (l.set i p) j = if j = i then p.2 else liveAt l j := by
  unfold liveAt
  by_cases h : j = i
  · subst h; simp [List.getD_eq_getElem?_getD, hi]
  · simp [List.getD_eq_getElem?_getD, Ne.symm h, h]
theorem genAt_born {l : Slots} {i : Nat} (hi : i < l.length) : genAt (bornAt l i) i = genAt l i + 1 := by rw [bornAt, genAt_set _ _ _ _ hi, if_pos rfl]

theorem slotOf_hnd {l : Slots} {G : Int} (hg : Gens l G) (hG0 : 0 ≤ G) {i : Nat} (hi : i < 65535) : slotOf (hndAt l i) = (i : Int) + 1 := by
  have := gen_mem hg i hG0
  unfold hndAt
  rw [slotOf_pos (by omega)]
  omega
/-- What the arena asks: the slot of h, its being there, live, and with h's generation. -/
theorem right_iff {l : Slots} {G h : Int} (hg : Gens l G) (hG0 : 0 ≤ G) (hn : l.length ≤ 1000) :
    rightB l h = true ↔ (1 ≤ slotOf h ∧ slotOf h ≤ l.length) ∧ liveAt l (slotOf h - 1).toNat = true ∧ hndAt l (slotOf h - 1).toNat = h := by
  unfold rightB
  rw [decide_eq_true_iff]
  constructor
  · rintro ⟨i, hi, hl, rfl⟩
    have hs := slotOf_hnd hg hG0 (show i < 65535 by omega)
    rw [hs]
    have : ((i : Int) + 1 - 1).toNat = i := by omega
    rw [this]
    exact ⟨by omega, hl, rfl⟩
  · rintro ⟨⟨h1, h2⟩, hl, hh⟩
    exact ⟨_, by omega, hl, hh⟩
theorem right_no {l : Slots} {h : Int} (hh : ∀ i, i < l.length → liveAt l i = true → hndAt l i ≠ h) : rightB l h = false := by
  unfold rightB
  rw [decide_eq_false_iff_not]
  rintro ⟨i, hi, hl, he⟩
  exact hh i hi hl he
theorem right_yes {l : Slots} {h : Int} {i : Nat} (hi : i < l.length) (hl : liveAt l i = true) (he : hndAt l i = h) : rightB l h = true := by
  unfold rightB
  rw [decide_eq_true_iff]
  exact ⟨i, hi, hl, he⟩

/-- The cells of what is known of slots. -/
def stc : Slots → List Value
  | [] => []
  | p :: l => .int .i64 p.1 :: .bool p.2 :: stc l
theorem stc_length : ∀ l : Slots, (stc l).length = l.length * 2
  | [] => rfl
  | p :: l => by simp only [stc, List.length_cons, stc_length l]; omega
theorem stc_gen : ∀ (l : Slots) (i : Nat), i < l.length → (stc l)[i * 2]? = some (.int .i64 (genAt l i))
  | [], i, h => absurd h (by simp)
  | p :: l, 0, _ => rfl
  | p :: l, i + 1, h => by
    have : (i + 1) * 2 = i * 2 + 1 + 1 := by omega
    rw [this]
    simp only [stc, List.getElem?_cons_succ]
    rw [stc_gen l i (by simpa using h)]
    rfl
theorem stc_live : ∀ (l : Slots) (i : Nat), i < l.length → (stc l)[i * 2 + 1]? = some (.bool (liveAt l i))
  | [], i, h => absurd h (by simp)
  | p :: l, 0, _ => rfl
  | p :: l, i + 1, h => by
    have : (i + 1) * 2 + 1 = i * 2 + 1 + 1 + 1 := by omega
    rw [this]
    simp only [stc, List.getElem?_cons_succ]
    rw [stc_live l i (by simpa using h)]
    rfl
theorem stc_set : ∀ (l : Slots) (i : Nat) (g : Int) (b : Bool), ((stc l).set (i * 2) (.int .i64 g)).set (i * 2 + 1) (.bool b) = stc (l.set i (g, b))
  | [], i, g, b => by simp [stc]
  | p :: l, 0, g, b => rfl
  | p :: l, i + 1, g, b => by
    have e1 : (i + 1) * 2 = i * 2 + 1 + 1 := by omega
    rw [e1]
    simp only [stc, List.set_cons_succ]
    rw [stc_set l i g b]
theorem stc_new (n : Nat) : madeCells #[.int .i64 0, .bool false] (n * 2) = (stc (List.replicate n (0, false))).toArray := by
  have hs : (madeCells #[.int .i64 0, .bool false] (n * 2)).size = n * 2 := by simp [size_madeCells]
  apply Array.ext
  · rw [hs]; simp [stc_length]
  · intro i h1 h2
    rw [hs] at h1
    have hq : i / 2 < (List.replicate n ((0 : Int), false)).length := by simp; omega
    rcases Nat.mod_two_eq_zero_or_one i with hm | hm
    · have he : i = i / 2 * 2 := by omega
      have := stc_gen _ _ hq
      rw [← he, genAt_new] at this
      simp only [List.getElem?_eq_some_iff] at this
      obtain ⟨_, this⟩ := this
      simp only [List.getElem_toArray, this, madeCells]
      simp [hm]
    · have he : i = i / 2 * 2 + 1 := by omega
      have := stc_live _ _ hq
      rw [← he, liveAt_new] at this
      simp only [List.getElem?_eq_some_iff] at this
      obtain ⟨_, this⟩ := this
      simp only [List.getElem_toArray, this, madeCells]
      simp [hm]
end Go.Proofs.Ytlgaihlbfjndhaa
