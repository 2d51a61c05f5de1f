/-
  Texts of our own, one behind the other (ArenaMath, Arena, ArenaRight, ArenaBorn): what the laws' proofs rest on; each says at its head what it holds. No conditions.
-/
import Derived.Test.YtejkhnphplpkeaaPkA
import Derived.Laws.BitsLemmas
import Derived.Test.YtejkhnphplpkeaaRows
import Derived.WalkKit
import Derived.ProofKit
import Derived.OpenShut
import Derived.WalkSpells
import Derived.WalkLawsBesides
import Derived.Deep.OwnRows
import Derived.Lib.Hide
import Derived.BigQuiet
import Derived.Deep.QuietTactic
import Derived.Deep.DeepCutAuto
import Derived.StillTailTactics
import Derived.Deep.RegionWith
import Derived.Deep.RegionHeld3
/-
  Layer 2, plain: slots and handles as numbers, what is known of slots as a list, and what is right.
-/
namespace Go.Proofs.Ytejkhnphplpkeaa
open Go.RowKit

/-- The slot's number of a handle. -/
def slotOf (h : Int) : Int := if h < 0 then 0 else h % 65536
theorem slotOf_lo (h : Int) : 0 ≤ slotOf h := by unfold slotOf; split <;> omega
theorem slotOf_hi (h : Int) : slotOf h < 65536 := by unfold slotOf; split <;> omega
theorem slotOf_neg {h : Int} (hh : h < 0) : slotOf h = 0 := if_pos hh
theorem slotOf_pos {h : Int} (hh : 0 ≤ h) : slotOf h = h % 65536 := if_neg (by omega)

theorem wraps_i64 (n : Int) (h₀ : 0 ≤ n) (h₁ : n < 2 ^ 63) : IntKind.i64.wrap n = n := by rw [IntKind.wrap_i64]; omega
theorem and_low16 {h : Int} (h0 : 0 ≤ h) (h1 : h ≤ 9223372036854775807) : bits BinOp.and IntKind.i64 h 65535 = h % 65536 :=
  bits_mask .i64 63 (by decide) wraps_i64 16 (by decide) h h0 (by omega)
theorem or_up {g s : Int} (h0 : 0 ≤ g) (h1 : g ≤ 1099511627776) (h2 : 0 ≤ s) (h3 : s < 65536) : bits BinOp.or IntKind.i64 (g * 65536) s = g * 65536 + s :=
  bits_join .i64 63 (by decide) wraps_i64 16 (g * 65536) s (by omega) (by omega) (by omega) h2 h3 (by omega)

theorem getD_in {α : Type} {l : List α} {i : Nat} (d : α) (h : i < l.length) : l.getD i d = l[i] := by simp [List.getD_eq_getElem?_getD, h]
theorem getD_out {α : Type} {l : List α} {i : Nat} (d : α) (h : l.length ≤ i) : l.getD i d = d := by simp [List.getD_eq_getElem?_getD, h]

/-- What is known of slots: of each its generation, and whether it is live. -/
abbrev Slots := List (Int × Bool)
/-- Of place i. -/
def genAt (l : Slots) (i : Nat) : Int := (l.getD i (0, false)).1
def liveAt (l : Slots) (i : Nat) : Bool := (l.getD i (0, false)).2
/-- The handle of place i. -/
def hndAt (l : Slots) (i : Nat) : Int := genAt l i * 65536 + ((i : Int) + 1)
/-- Generations are no less than 0, and no more than G. -/
def Gens (l : Slots) (G : Int) : Prop := ∀ p ∈ l, 0 ≤ p.1 ∧ p.1 ≤ G
/-- The place of a handle that is right, if there is one. -/
def rightB (l : Slots) (h : Int) : Bool := decide (∃ i, i < l.length ∧ liveAt l i = true ∧ hndAt l i = h)
/-- A birth at place i. -/
def bornAt (l : Slots) (i : Nat) : Slots := l.set i (genAt l i + 1, true)
/-- A death at place i. -/
def diedAt (l : Slots) (i : Nat) : Slots := l.set i (genAt l i, false)
/-- The handles that are right, of the places from k on. -/
def liveFrom (l : Slots) (k n : Nat) : List Int := (List.range' k n).filterMap fun i => if liveAt l i then some (hndAt l i) else none
def liveTo (l : Slots) (k : Nat) : List Int := liveFrom l 0 k

theorem liveTo_zero (l : Slots) : liveTo l 0 = [] := rfl
theorem liveTo_succ (l : Slots) (k : Nat) : liveTo l (k + 1) = liveTo l k ++ (if liveAt l k then [hndAt l k] else []) := by
  unfold liveTo liveFrom
  rw [List.range'_1_concat, List.filterMap_append, Nat.zero_add]
  congr 1
  by_cases h : liveAt l k = true <;> simp [h]
theorem liveTo_yes {l : Slots} {k : Nat} (h : liveAt l k = true) : liveTo l (k + 1) = liveTo l k ++ [hndAt l k] := by rw [liveTo_succ, if_pos h]
theorem liveTo_no {l : Slots} {k : Nat} (h : liveAt l k = false) : liveTo l (k + 1) = liveTo l k := by rw [liveTo_succ, if_neg (by simp [h]), List.append_nil]
theorem liveTo_le (l : Slots) (k : Nat) : (liveTo l k).length ≤ k := by
  unfold liveTo liveFrom
  have := List.length_filterMap_le (fun i => if liveAt l i then some (hndAt l i) else none) (List.range' 0 k)
  rw [List.length_range'] at this
  exact this
theorem liveTo_prefix (l : Slots) : ∀ {k n : Nat}, k ≤ n → ∃ r, liveTo l n = liveTo l k ++ r := by
  intro k n h
  induction n with
  | zero => obtain rfl : k = 0 := by omega
            exact ⟨[], by simp⟩
  | succ n ih =>
    by_cases hk : k = n + 1
    · subst hk; exact ⟨[], by simp⟩
    · obtain ⟨r, hr⟩ := ih (by omega)
      exact ⟨r ++ (if liveAt l n then [hndAt l n] else []), by rw [liveTo_succ, hr, List.append_assoc]⟩
/-- The handle of a place that is live stands where it should. -/
theorem liveTo_at {l : Slots} {k n : Nat} (h : liveAt l k = true) (hk : k < n) : (liveTo l k).length < (liveTo l n).length ∧ nth (liveTo l n) (liveTo l k).length = hndAt l k := by
  obtain ⟨r, hr⟩ := liveTo_prefix l (show k + 1 ≤ n by omega)
  rw [liveTo_yes h] at hr
  rw [hr]
  refine ⟨by simp only [List.length_append, List.length_cons, List.length_nil]; omega, ?_⟩
  unfold nth
  simp

theorem gen_mem {l : Slots} {G : Int} (h : Gens l G) (i : Nat) (hG : 0 ≤ G) : 0 ≤ genAt l i ∧ genAt l i ≤ G := by
  unfold genAt
  by_cases hi : i < l.length
  · rw [getD_in _ hi]; exact h _ (List.getElem_mem hi)
  · rw [getD_out _ (by omega)]; exact ⟨by simp, hG⟩
theorem gens_mono {l : Slots} {G G' : Int} (h : Gens l G) (hG : G ≤ G') : Gens l G' := fun p hp => ⟨(h p hp).1, by have := (h p hp).2; omega⟩
theorem gens_born {l : Slots} {G : Int} (h : Gens l G) (hG : 0 ≤ G) (i : Nat) : Gens (bornAt l i) (G + 1) := by
  intro p hp
  rcases List.mem_or_eq_of_mem_set hp with hp | rfl
  · have := h p hp; omega
  · have := gen_mem h i hG; simp only; omega
theorem gens_died {l : Slots} {G : Int} (h : Gens l G) (hG : 0 ≤ G) (i : Nat) : Gens (diedAt l i) G := by
  intro p hp
  rcases List.mem_or_eq_of_mem_set hp with hp | rfl
  · exact h p hp
  · exact gen_mem h i hG
theorem born_length (l : Slots) (i : Nat) : (bornAt l i).length = l.length := by simp [bornAt]
theorem died_length (l : Slots) (i : Nat) : (diedAt l i).length = l.length := by simp [diedAt]
theorem gens_new (n : Nat) : Gens (List.replicate n (0, false)) 0 := by
  intro p hp
  rw [(List.mem_replicate.1 hp).2]; simp
theorem genAt_new (n i : Nat) : genAt (List.replicate n (0, false)) i = 0 := by
  unfold genAt
  by_cases hi : i < n
  · rw [getD_in _ (by simpa using hi)]; simp
  · rw [getD_out _ (by simp; omega)]
theorem liveAt_new (n i : Nat) : liveAt (List.replicate n (0, false)) i = false := by
  unfold liveAt
  by_cases hi : i < n
  · rw [getD_in _ (by simpa using hi)]; simp
  · rw [getD_out _ (by simp; omega)]
theorem genAt_set (l : Slots) (i j : Nat) (p : Int × Bool) (hi : i < l.length) : genAt (l.set i p) j = if j = i then p.1 else genAt l j := by
  unfold genAt
  by_cases h : j = i
  · subst h; simp [List.getD_eq_getElem?_getD, hi]
  · simp [List.getD_eq_getElem?_getD, Ne.symm h, h]
theorem liveAt_set (l : Slots) (i j : Nat) (p : Int × Bool) (hi : i < l.length) : liveAt (l.set i p) j = if j = i then p.2 else liveAt l j := by
  unfold liveAt
  by_cases h : j = i
  · subst h; simp [List.getD_eq_getElem?_getD, hi]
  · simp [List.getD_eq_getElem?_getD, Ne.symm h, h]
theorem genAt_born {l : Slots} {i : Nat} (hi : i < l.length) : genAt (bornAt l i) i = genAt l i + 1 := by rw [bornAt, genAt_set _ _ _ _ hi, if_pos rfl]

theorem slotOf_hnd {l : Slots} {G : Int} (hg : Gens l G) (hG0 : 0 ≤ G) {i : Nat} (hi : i < 65535) : slotOf (hndAt l i) = (i : Int) + 1 := by
  have := gen_mem hg i hG0
  unfold hndAt
  rw [slotOf_pos (by omega)]
  omega
/-- What the arena asks: the slot of h, its being there, live, and with h's generation. -/
theorem right_iff {l : Slots} {G h : Int} (hg : Gens l G) (hG0 : 0 ≤ G) (hn : l.length ≤ 1000) :
    rightB l h = true ↔ (1 ≤ slotOf h ∧ slotOf h ≤ l.length) ∧ liveAt l (slotOf h - 1).toNat = true ∧ hndAt l (slotOf h - 1).toNat = h := by
  unfold rightB
  rw [decide_eq_true_iff]
  constructor
  · rintro ⟨i, hi, hl, rfl⟩
    have hs := slotOf_hnd hg hG0 (show i < 65535 by omega)
    rw [hs]
    have : ((i : Int) + 1 - 1).toNat = i := by omega
    rw [this]
    exact ⟨by omega, hl, rfl⟩
  · rintro ⟨⟨h1, h2⟩, hl, hh⟩
    exact ⟨_, by omega, hl, hh⟩
theorem right_no {l : Slots} {h : Int} (hh : ∀ i, i < l.length → liveAt l i = true → hndAt l i ≠ h) : rightB l h = false := by
  unfold rightB
  rw [decide_eq_false_iff_not]
  rintro ⟨i, hi, hl, he⟩
  exact hh i hi hl he
theorem right_yes {l : Slots} {h : Int} {i : Nat} (hi : i < l.length) (hl : liveAt l i = true) (he : hndAt l i = h) : rightB l h = true := by
  unfold rightB
  rw [decide_eq_true_iff]
  exact ⟨i, hi, hl, he⟩

/-- The cells of what is known of slots. -/
def stc : Slots → List Value
  | [] => []
  | p :: l => .int .i64 p.1 :: .bool p.2 :: stc l
theorem stc_length : ∀ l : Slots, (stc l).length = l.length * 2
  | [] => rfl
  | p :: l => by simp only [stc, List.length_cons, stc_length l]; omega
theorem stc_gen : ∀ (l : Slots) (i : Nat), i < l.length → (stc l)[i * 2]? = some (.int .i64 (genAt l i))
  | [], i, h => absurd h (by simp)
  | p :: l, 0, _ => rfl
  | p :: l, i + 1, h => by
    have : (i + 1) * 2 = i * 2 + 1 + 1 := by omega
    rw [this]
    simp only [stc, List.getElem?_cons_succ]
    rw [stc_gen l i (by simpa using h)]
    rfl
theorem stc_live : ∀ (l : Slots) (i : Nat), i < l.length → (stc l)[i * 2 + 1]? = some (.bool (liveAt l i))
  | [], i, h => absurd h (by simp)
  | p :: l, 0, _ => rfl
  | p :: l, i + 1, h => by
    have : (i + 1) * 2 + 1 = i * 2 + 1 + 1 + 1 := by omega
    rw [this]
    simp only [stc, List.getElem?_cons_succ]
    rw [stc_live l i (by simpa using h)]
    rfl
theorem stc_set : ∀ (l : Slots) (i : Nat) (g : Int) (b : Bool), ((stc l).set (i * 2) (.int .i64 g)).set (i * 2 + 1) (.bool b) = stc (l.set i (g, b))
  | [], i, g, b => by simp [stc]
  | p :: l, 0, g, b => rfl
  | p :: l, i + 1, g, b => by
    have e1 : (i + 1) * 2 = i * 2 + 1 + 1 := by omega
    rw [e1]
    simp only [stc, List.set_cons_succ]
    rw [stc_set l i g b]
theorem stc_new (n : Nat) : madeCells #[.int .i64 0, .bool false] (n * 2) = (stc (List.replicate n (0, false))).toArray := by
  have hs : (madeCells #[.int .i64 0, .bool false] (n * 2)).size = n * 2 := by simp [size_madeCells]
  apply Array.ext
  · rw [hs]; simp [stc_length]
  · intro i h1 h2
    rw [hs] at h1
    have hq : i / 2 < (List.replicate n ((0 : Int), false)).length := by simp; omega
    rcases Nat.mod_two_eq_zero_or_one i with hm | hm
    · have he : i = i / 2 * 2 := by omega
      have := stc_gen _ _ hq
      rw [← he, genAt_new] at this
      simp only [List.getElem?_eq_some_iff] at this
      obtain ⟨_, this⟩ := this
      simp only [List.getElem_toArray, this, madeCells]
      simp [hm]
    · have he : i = i / 2 * 2 + 1 := by omega
      have := stc_live _ _ hq
      rw [← he, liveAt_new] at this
      simp only [List.getElem?_eq_some_iff] at this
      obtain ⟨_, this⟩ := this
      simp only [List.getElem_toArray, this, madeCells]
      simp [hm]
end Go.Proofs.Ytejkhnphplpkeaa

/-
  Layer 2: what each call on an arena does, as a contract over what is known of its slots.
-/
namespace Go.Proofs.Ytejkhnphplpkeaa
open Go.ChangeShapes Go.WideShapes Go.ChangeAt Go.RowKit
set_option linter.unusedVariables false

/-- An arena: its struct in block b, what is known of its slots in block g. -/
structure ArAt (w : World) (b g : Nat) (fst : Int) (l : Slots) (st db : Bool) : Prop where
  top : Whole w b 90 #[.int .i64 fst, .slice (some ⟨g, 0, none⟩) l.length l.length, .bool st, .bool db]
  row : Whole w g 95 (stc l).toArray
  few : l.length ≤ 1000
  lo : 0 ≤ fst
  hi : fst ≤ 65536

/-- The blocks of an arena. -/
def ArTwo (b g : Nat) (k : Nat) : Prop := k = b ∨ k = g

section
variable {w w' : World} {b g : Nat} {fst : Int} {l : Slots} {st db : Bool}
theorem ArAt.ne (h : ArAt w b g fst l st db) : b ≠ g := h.top.apart h.row (by decide)
theorem ArAt.c0 (h : ArAt w b g fst l st db) : w.cell? ⟨b, 0, none⟩ = some (.int .i64 fst) := by rw [h.top.cell]; rfl
theorem ArAt.c1 (h : ArAt w b g fst l st db) : w.cell? ⟨b, 1, none⟩ = some (.slice (some ⟨g, 0, none⟩) l.length l.length) := by rw [h.top.cell]; rfl
theorem ArAt.c2 (h : ArAt w b g fst l st db) : w.cell? ⟨b, 2, none⟩ = some (.bool st) := by rw [h.top.cell]; rfl
theorem ArAt.c3 (h : ArAt w b g fst l st db) : w.cell? ⟨b, 3, none⟩ = some (.bool db) := by rw [h.top.cell]; rfl
theorem ArAt.fr (h : ArAt w b g fst l st db) (i : Nat) : w.frozen? ⟨b, i, none⟩ = false := h.top.frozen i
theorem ArAt.gen (h : ArAt w b g fst l st db) (i : Nat) (hi : i < l.length) : w.cell? ⟨g, i * 2, none⟩ = some (.int .i64 (genAt l i)) := by rw [h.row.cell, List.getElem?_toArray]; exact stc_gen l i hi
theorem ArAt.live (h : ArAt w b g fst l st db) (i : Nat) (hi : i < l.length) : w.cell? ⟨g, i * 2 + 1, none⟩ = some (.bool (liveAt l i)) := by rw [h.row.cell, List.getElem?_toArray]; exact stc_live l i hi
theorem ArAt.frg (h : ArAt w b g fst l st db) (i : Nat) : w.frozen? ⟨g, i, none⟩ = false := h.row.frozen i
theorem ArAt.only {S : Nat → Prop} (h : ArAt w b g fst l st db) (ho : Only S w w') (hb : ¬ S b) (hg : ¬ S g) : ArAt w' b g fst l st db :=
  ⟨h.top.only ho hb, h.row.only ho hg, h.few, h.lo, h.hi⟩
theorem ArAt.still (h : ArAt w b g fst l st db) (hb : Below w.heap.size w w') : ArAt w' b g fst l st db := h.only (Only.of_below hb (fun _ => False)) id id
theorem ArAt.alloc (h : ArAt w b g fst l st db) (o : Obj) : ArAt (w.alloc o) b g fst l st db := ⟨h.top.alloc o, h.row.alloc o, h.few, h.lo, h.hi⟩
theorem ArAt.drewN (h : ArAt w b g fst l st db) (n : Nat) : ArAt (w.drewN n) b g fst l st db := ⟨h.top, h.row, h.few, h.lo, h.hi⟩
theorem ArAt.stale (h : ArAt w b g fst l st db) (v : Bool) : ArAt (w.setCell ⟨b, 2, none⟩ (.bool v)) b g fst l v db :=
  ⟨h.top.put 2 _, h.row.far (Ne.symm h.ne) _, h.few, h.lo, h.hi⟩
theorem ArAt.double (h : ArAt w b g fst l st db) (v : Bool) : ArAt (w.setCell ⟨b, 3, none⟩ (.bool v)) b g fst l st v :=
  ⟨h.top.put 3 _, h.row.far (Ne.symm h.ne) _, h.few, h.lo, h.hi⟩
theorem ArAt.ltb (h : ArAt w b g fst l st db) : b < w.heap.size := h.top.lt
theorem ArAt.ltg (h : ArAt w b g fst l st db) : g < w.heap.size := h.row.lt
theorem ArAt.put (h : ArAt w b g fst l st db) (i : Nat) (x : Int) (v : Bool) : ArAt ((w.setCell ⟨g, i * 2, none⟩ (.int .i64 x)).setCell ⟨g, i * 2 + 1, none⟩ (.bool v)) b g fst (l.set i (x, v)) st db := by
  refine ⟨?_, ?_, by rw [List.length_set]; exact h.few, h.lo, h.hi⟩
  · rw [List.length_set]; exact (h.top.far h.ne _).far h.ne _
  · have := (h.row.put (i * 2) (.int .i64 x)).put (i * 2 + 1) (.bool v)
    rw [List.setIfInBounds_toArray, List.setIfInBounds_toArray, stc_set] at this
    exact this
end

theorem slot_any (h : Int) (w : World) (hh : h ≤ 9223372036854775807) :
    Calls Try.prog 93 #[.int .i64 h] w fun e w' => e = .returned (.int .i64 (slotOf h)) ∧ w = w' := by
  by_cases h0 : h < 0
  · have HS := Lib.hid (slotOf_neg h0)
    go_enter Try.func93, Try.ntmps93
    go_wp2
    go_ret
    exact ⟨by rw [HS.out]; rfl, rfl⟩
  · have hp : 0 ≤ h := by omega
    have HS := Lib.hid (slotOf_pos hp)
    have HA := Lib.hid (and_low16 hp hh)
    go_enter Try.func93, Try.ntmps93
    go_wp2
    go_ret
    exact ⟨by rw [HS.out, HA.out]; rfl, rfl⟩

theorem handle_any (s g : Int) (w : World) (h0 : 0 ≤ g) (h1 : g ≤ 1099511627776) (h2 : 0 ≤ s) (h3 : s < 65536) :
    Calls Try.prog 49 #[.int .i64 s, .int .i64 g] w fun e w' => e = .returned (.int .i64 (g * 65536 + s)) ∧ w = w' := by
  have HA := Lib.hid (or_up h0 h1 h2 h3)
  go_enter Try.func49, Try.ntmps49
  go_wp2
  go_ret
  exact ⟨by rw [← HA.out]; rfl, rfl⟩

theorem has_yes (b g n : Nat) (s : Int) (w : World) (hc : w.cell? ⟨b, 1, none⟩ = some (.slice (some ⟨g, 0, none⟩) n n)) (h0 : 1 ≤ s) (h1 : s ≤ n) :
    Calls Try.prog 48 #[.pointer (some ⟨b, 0, none⟩), .int .i64 s] w fun e w' => e = .returned (.bool true) ∧ w = w' := by
  go_enter Try.func48, Try.ntmps48
  go_wp2
  go_ret
  exact ⟨rfl, rfl⟩
theorem has_no (b g n : Nat) (s : Int) (w : World) (hc : w.cell? ⟨b, 1, none⟩ = some (.slice (some ⟨g, 0, none⟩) n n)) (h : s < 1 ∨ n < s) :
    Calls Try.prog 48 #[.pointer (some ⟨b, 0, none⟩), .int .i64 s] w fun e w' => e = .returned (.bool false) ∧ w = w' := by
  rcases h with h | h
  · go_enter Try.func48, Try.ntmps48
    go_wp2
    go_ret
    exact ⟨rfl, rfl⟩
  · have h' : 1 ≤ s := by omega
    have hd : decide (s ≤ (n : Int)) = false := by simp; omega
    go_enter Try.func48, Try.ntmps48
    go_wp2
    go_ret
    exact ⟨rfl, rfl⟩

theorem stale_any (b : Nat) (v : Bool) (w : World) (hc : w.cell? ⟨b, 2, none⟩ = some (.bool v)) :
    Calls Try.prog 34 #[.pointer (some ⟨b, 0, none⟩)] w fun e w' => e = .returned (.bool v) ∧ w = w' := by
  go_enter Try.func34, Try.ntmps34
  go_wp2
  go_ret
  exact ⟨rfl, rfl⟩
end Go.Proofs.Ytejkhnphplpkeaa

/-
  Layer 2: whether a handle is right, and what is told, or done, on the strength of it.
-/
namespace Go.Proofs.Ytejkhnphplpkeaa
open Go.ChangeShapes Go.WideShapes Go.ChangeAt Go.RowKit
set_option linter.unusedVariables false

section
variable {w : World} {b g : Nat} {fst : Int} {l : Slots} {st db : Bool}

set_option maxHeartbeats 1000000 in
theorem arRight_any (h G : Int) (H : ArAt w b g fst l st db) (hG : Gens l G) (hG0 : 0 ≤ G) (hG1 : G ≤ 1099511627776) (hh : h ≤ 9223372036854775807) :
    Calls Try.prog 94 #[.pointer (some ⟨b, 0, none⟩), .int .i64 h] w fun e w' => e = .returned (.bool (rightB l h)) ∧ Below w.heap.size w w' := by
  have hiff := right_iff (h := h) hG hG0 H.few
  have hc := H.c1
  have hlo := slotOf_lo h
  have hhi := slotOf_hi h
  have hfew := H.few
  by_cases hin : 1 ≤ slotOf h ∧ slotOf h ≤ l.length
  · obtain ⟨h1, h2⟩ := hin
    obtain ⟨i, hi⟩ : ∃ i : Nat, slotOf h = (i : Int) + 1 := ⟨(slotOf h - 1).toNat, by omega⟩
    have hil : i < l.length := by omega
    have e1 : (slotOf h - 1).toNat = i := by omega
    rw [e1] at hiff
    have c1 := H.gen i hil
    have c2 := H.live i hil
    have g1 := gen_mem hG i hG0
    have ch : hndAt l i = genAt l i * 65536 + ((i : Int) + 1) := rfl
    have HI := Lib.hid hi
    have HIFF := Lib.hid hiff
    have CH := Lib.hid ch
    clear hiff hi e1 ch hlo hhi h1 h2
    have g1a := g1.1
    have g1b := g1.2
    generalize hx : genAt l i = x at *
    generalize l.length = n at *
    have HX := Lib.hid hx
    clear hx H hG g1
    cases hv : liveAt l i with
    | false =>
      rw [hv] at c2
      have HR : Hid (rightB l h = false) := by
        unfold Hid; rw [Bool.eq_false_iff]; intro hr
        have := (HIFF.out.1 hr).2.1
        rw [hv] at this; cases this
      clear HIFF hv
      go_enter Try.func94, Try.ntmps94
      go_wp2_with fail
      refine (slot_any _ _ hh).mono ?_
      rw [HI.out]
      rintro e w' ⟨rfl, rfl⟩
      go_wp2_with fail
      refine (has_yes b g n _ _ hc (by omega) (by omega)).mono ?_
      rintro e w' ⟨rfl, rfl⟩
      go_wp2_with fail
      go_ret
      exact ⟨by rw [HR.out]; rfl, (Below.refl _ _).alloc (Nat.le_refl _) _⟩
    | true =>
      rw [hv] at c2
      have HV := Lib.hid hv
      clear hv
      by_cases he : x * 65536 + ((i : Int) + 1) = h
      · have HR : Hid (rightB l h = true) := HIFF.out.2 ⟨by rw [HI.out]; omega, HV.out, by rw [CH.out]; exact he⟩
        have hb : (x * 65536 + ((i : Int) + 1) == h) = true := beq_iff_eq.2 he
        clear HIFF he
        go_enter Try.func94, Try.ntmps94
        go_wp2_with fail
        refine (slot_any _ _ hh).mono ?_
        rw [HI.out]
        rintro e w' ⟨rfl, rfl⟩
        go_wp2_with fail
        refine (has_yes b g n _ _ hc (by omega) (by omega)).mono ?_
        rintro e w' ⟨rfl, rfl⟩
        go_wp2_with fail
        refine (handle_any _ _ _ g1a (by omega) (by omega) (by omega)).mono ?_
        rintro e w' ⟨rfl, rfl⟩
        go_wp2_with fail
        go_ret
        exact ⟨by rw [HR.out]; rfl, (Below.refl _ _).alloc (Nat.le_refl _) _⟩
      · have HR : Hid (rightB l h = false) := by
          unfold Hid; rw [Bool.eq_false_iff]; intro hr
          have := (HIFF.out.1 hr).2.2
          rw [CH.out] at this; exact he this
        have hb : (x * 65536 + ((i : Int) + 1) == h) = false := beq_eq_false_iff_ne.2 he
        clear HIFF he
        go_enter Try.func94, Try.ntmps94
        go_wp2_with fail
        refine (slot_any _ _ hh).mono ?_
        rw [HI.out]
        rintro e w' ⟨rfl, rfl⟩
        go_wp2_with fail
        refine (has_yes b g n _ _ hc (by omega) (by omega)).mono ?_
        rintro e w' ⟨rfl, rfl⟩
        go_wp2_with fail
        refine (handle_any _ _ _ g1a (by omega) (by omega) (by omega)).mono ?_
        rintro e w' ⟨rfl, rfl⟩
        go_wp2_with fail
        go_ret
        exact ⟨by rw [HR.out]; rfl, (Below.refl _ _).alloc (Nat.le_refl _) _⟩
  · have HR : Hid (rightB l h = false) := by
      unfold Hid; rw [Bool.eq_false_iff]; intro hr
      exact hin (hiff.1 hr).1
    have hno : slotOf h < 1 ∨ (l.length : Int) < slotOf h := by omega
    have HN := Lib.hid hno
    clear hiff hin hno hlo hhi
    go_enter Try.func94, Try.ntmps94
    go_wp2_with fail
    refine (slot_any _ _ hh).mono ?_
    rintro e w' ⟨rfl, rfl⟩
    go_wp2_with fail
    refine (has_no b g _ _ _ hc HN.out).mono ?_
    rintro e w' ⟨rfl, rfl⟩
    go_wp2_with fail
    go_ret
    exact ⟨by rw [HR.out]; rfl, Below.refl _ _⟩

/-- What a call on an arena leaves: its answer, and the arena; and nothing else has turned. -/
def ArDid (w : World) (b g : Nat) (v : Value) (fst : Int) (l : Slots) (st db : Bool) (e : Ending) (w' : World) : Prop :=
  e = .returned v ∧ ArAt w' b g fst l st db ∧ Only (ArTwo b g) w w'

theorem touch_any (h G : Int) (H : ArAt w b g fst l st db) (hG : Gens l G) (hG0 : 0 ≤ G) (hG1 : G ≤ 1099511627776) (hh : h ≤ 9223372036854775807) :
    Calls Try.prog 87 #[.pointer (some ⟨b, 0, none⟩), .int .i64 h] w (ArDid w b g (.tuple #[]) fst l (st || !rightB l h) db) := by
  have HH := Lib.hid H
  have HG := Lib.hid hG
  clear H hG
  cases hr : rightB l h with
  | true =>
    have HR := Lib.hid hr
    clear hr
    go_enter Try.func87, Try.ntmps87
    go_wp2_with fail
    refine (arRight_any h G HH.out HG.out hG0 hG1 hh).mono ?_
    rw [HR.out]
    rintro e w1 ⟨rfl, hb⟩
    go_wp2_with fail
    go_end0
    exact ⟨rfl, by simpa using HH.out.still hb, Only.of_below hb _⟩
  | false =>
    have HR := Lib.hid hr
    clear hr
    go_enter Try.func87, Try.ntmps87
    go_wp2_with fail
    refine (arRight_any h G HH.out HG.out hG0 hG1 hh).mono ?_
    rw [HR.out]
    rintro e w1 ⟨rfl, hb⟩
    have h1 := HH.out.still hb
    have c2 := h1.c2
    have f2 := h1.fr 2
    have H1 := Lib.hid h1
    clear h1
    go_wp2_with fail
    go_end0
    exact ⟨rfl, by simpa using H1.out.stale true, (Only.of_below hb _).setCell (p := ⟨b, 2, none⟩) (.inl (.inl rfl)) _⟩
end
end Go.Proofs.Ytejkhnphplpkeaa

/-
  Layer 2: births and deaths, where a slot's words stand, and a new arena.
-/
namespace Go.Proofs.Ytejkhnphplpkeaa
open Go.ChangeShapes Go.WideShapes Go.ChangeAt Go.RowKit
set_option linter.unusedVariables false

theorem stc_setLive : ∀ (l : Slots) (i : Nat) (v : Bool), (stc l).set (i * 2 + 1) (.bool v) = stc (l.set i (genAt l i, v))
  | [], i, v => by simp [stc]
  | p :: l, 0, v => rfl
  | p :: l, i + 1, v => by
    have e1 : (i + 1) * 2 + 1 = i * 2 + 1 + 1 + 1 := by omega
    rw [e1]
    simp only [stc, List.set_cons_succ]
    rw [stc_setLive l i v]
    rfl
theorem stc_setGen : ∀ (l : Slots) (i : Nat) (x : Int), (stc l).set (i * 2) (.int .i64 x) = stc (l.set i (x, liveAt l i))
  | [], i, v => by simp [stc]
  | p :: l, 0, v => rfl
  | p :: l, i + 1, v => by
    have e1 : (i + 1) * 2 = i * 2 + 1 + 1 := by omega
    rw [e1]
    simp only [stc, List.set_cons_succ]
    rw [stc_setGen l i v]
    rfl
theorem born_steps {l : Slots} {i : Nat} (hi : i < l.length) (x : Int) : ((l.set i (genAt l i, true)).set i (x, liveAt (l.set i (genAt l i, true)) i)) = l.set i (x, true) := by
  rw [liveAt_set _ _ _ _ hi, if_pos rfl, List.set_set]

section
variable {w : World} {b g : Nat} {fst : Int} {l : Slots} {st db : Bool}
theorem ArAt.drew (h : ArAt w b g fst l st db) : ArAt w.drew b g fst l st db := ⟨h.top, h.row, h.few, h.lo, h.hi⟩
theorem ArAt.setLive (h : ArAt w b g fst l st db) (i : Nat) (v : Bool) : ArAt (w.setCell ⟨g, i * 2 + 1, none⟩ (.bool v)) b g fst (l.set i (genAt l i, v)) st db := by
  refine ⟨?_, ?_, by rw [List.length_set]; exact h.few, h.lo, h.hi⟩
  · rw [List.length_set]; exact h.top.far h.ne _
  · have := h.row.put (i * 2 + 1) (.bool v)
    rw [List.setIfInBounds_toArray, stc_setLive] at this
    exact this
theorem ArAt.setGen (h : ArAt w b g fst l st db) (i : Nat) (x : Int) : ArAt (w.setCell ⟨g, i * 2, none⟩ (.int .i64 x)) b g fst (l.set i (x, liveAt l i)) st db := by
  refine ⟨?_, ?_, by rw [List.length_set]; exact h.few, h.lo, h.hi⟩
  · rw [List.length_set]; exact h.top.far h.ne _
  · have := h.row.put (i * 2) (.int .i64 x)
    rw [List.setIfInBounds_toArray, stc_setGen] at this
    exact this

theorem born_no (s : Int) (H : ArAt w b g fst l st db) (hs : s < 1 ∨ (l.length : Int) < s) :
    Calls Try.prog 27 #[.pointer (some ⟨b, 0, none⟩), .int .i64 s] w fun e w' => e = .returned (.int .i64 0) ∧ w = w' := by
  have hc := H.c1
  have HS := Lib.hid hs
  clear H hs
  go_enter Try.func27, Try.ntmps27
  go_wp2_with fail
  refine (has_no b g _ _ _ hc HS.out).mono ?_
  rintro e w' ⟨rfl, rfl⟩
  go_wp2_with fail
  go_ret
  exact ⟨rfl, rfl⟩

theorem born_set {l : Slots} {i : Nat} (hi : i < l.length) {w : World} {b g : Nat} {fst : Int} {st db : Bool} (h : ArAt w b g fst l st db) :
    ArAt ((w.setCell ⟨g, i * 2 + 1, none⟩ (.bool true)).setCell ⟨g, i * 2, none⟩ (.int .i64 (genAt l i + 1))) b g fst (bornAt l i) st db := by
  have := (h.setLive i true).setGen i (genAt l i + 1)
  rw [born_steps hi] at this
  exact this

set_option maxHeartbeats 1000000 in
theorem born_yes (i : Nat) (G : Int) (H : ArAt w b g fst l st db) (hG : Gens l G) (hG0 : 0 ≤ G) (hG1 : G + 1 ≤ 1099511627776) (hil : i < l.length) :
    Calls Try.prog 27 #[.pointer (some ⟨b, 0, none⟩), .int .i64 ((i : Int) + 1)] w (ArDid w b g (.int .i64 (hndAt (bornAt l i) i)) fst (bornAt l i) st (db || liveAt l i)) := by
  have hc := H.c1
  have cg := H.gen i hil
  have cl := H.live i hil
  have fg := H.frg (i * 2)
  have fl := H.frg (i * 2 + 1)
  have fd := H.fr 3
  have cd := H.c3
  have hne := H.ne
  have hfew := H.few
  have hgm := gen_mem hG i hG0
  have g0 := hgm.1
  have g1 := hgm.2
  have HD : Hid (hndAt (bornAt l i) i = (genAt l i + 1) * 65536 + ((i : Int) + 1)) := by unfold Hid hndAt; rw [genAt_born hil]
  have HB := Lib.hid (born_set hil H)
  have HB2 := Lib.hid (born_set hil (H.double true))
  have HH := Lib.hid H
  clear H hG hgm
  generalize hx : genAt l i = x at *
  have HX := Lib.hid hx
  clear hx
  cases hv : liveAt l i with
  | false =>
    rw [hv] at cl
    clear hv
    generalize bornAt l i = l' at *
    generalize l.length = n at *
    go_enter Try.func27, Try.ntmps27
    go_wp2_with fail
    refine (has_yes b g n _ _ hc (by omega) (by omega)).mono ?_
    rintro e w' ⟨rfl, rfl⟩
    go_wp2_with fail
    refine (handle_any _ _ _ (by omega) (by omega) (by omega) (by omega)).mono ?_
    rintro e w' ⟨rfl, rfl⟩
    go_wp2_with fail
    go_ret
    refine ⟨by rw [HD.out]; rfl, by simpa using HB.out, ?_⟩
    exact ((Only.refl (ArTwo b g) w).setCell (p := ⟨g, i * 2 + 1, none⟩) (Or.inl (Or.inr rfl)) _).setCell (p := ⟨g, i * 2, none⟩) (Or.inl (Or.inr rfl)) _
  | true =>
    rw [hv] at cl
    clear hv
    generalize bornAt l i = l' at *
    generalize l.length = n at *
    go_enter Try.func27, Try.ntmps27
    go_wp2_with fail
    refine (has_yes b g n _ _ hc (by omega) (by omega)).mono ?_
    rintro e w' ⟨rfl, rfl⟩
    go_wp2_with fail
    refine (handle_any _ _ _ (by omega) (by omega) (by omega) (by omega)).mono ?_
    rintro e w' ⟨rfl, rfl⟩
    go_wp2_with fail
    go_ret
    refine ⟨by rw [HD.out]; rfl, by simpa using HB2.out, ?_⟩
    exact (((Only.refl (ArTwo b g) w).setCell (p := ⟨b, 3, none⟩) (Or.inl (Or.inl rfl)) _).setCell (p := ⟨g, i * 2 + 1, none⟩) (Or.inl (Or.inr rfl)) _).setCell (p := ⟨g, i * 2, none⟩) (Or.inl (Or.inr rfl)) _

/-- Where a word of h's slot stands. -/
def cellOf (fst : Int) (n : Nat) (h word : Int) : Int :=
  if (1 ≤ slotOf h ∧ slotOf h ≤ n) ∧ 0 ≤ word ∧ word < 28 then fst + 28 * (slotOf h - 1) + word else -1

theorem cell_any (h word : Int) (H : ArAt w b g fst l st db) (hh : h ≤ 9223372036854775807) :
    Calls Try.prog 85 #[.pointer (some ⟨b, 0, none⟩), .int .i64 h, .int .i64 word] w fun e w' => e = .returned (.int .i64 (cellOf fst l.length h word)) ∧ w = w' := by
  have hc := H.c1
  have hc0 := H.c0
  have hlo := slotOf_lo h
  have hhi := slotOf_hi h
  have hfew := H.few
  have flo := H.lo
  have fhi := H.hi
  clear H
  generalize l.length = n at *
  by_cases hin : 1 ≤ slotOf h ∧ slotOf h ≤ n
  · obtain ⟨h1, h2⟩ := hin
    by_cases hw : 0 ≤ word ∧ word < 28
    · obtain ⟨w0, w1⟩ := hw
      have HC : Hid (cellOf fst n h word = fst + 28 * (slotOf h - 1) + word) := by unfold Hid cellOf; rw [if_pos ⟨⟨h1, h2⟩, w0, w1⟩]
      go_enter Try.func85, Try.ntmps85
      go_wp2_with fail
      refine (slot_any _ _ hh).mono ?_
      rintro e w' ⟨rfl, rfl⟩
      go_wp2_with fail
      refine (has_yes b g n _ _ hc h1 h2).mono ?_
      rintro e w' ⟨rfl, rfl⟩
      go_wp2_with fail
      go_ret
      exact ⟨by rw [HC.out]; rfl, rfl⟩
    · have HC : Hid (cellOf fst n h word = -1) := by unfold Hid cellOf; rw [if_neg (by omega)]
      have hw' : word < 0 ∨ 28 ≤ word := by omega
      rcases hw' with hw0 | hw0
      all_goals
        try have hw1 : 0 ≤ word := by omega
        clear hw
        go_enter Try.func85, Try.ntmps85
        go_wp2_with fail
        refine (slot_any _ _ hh).mono ?_
        rintro e w' ⟨rfl, rfl⟩
        go_wp2_with fail
        refine (has_yes b g n _ _ hc h1 h2).mono ?_
        rintro e w' ⟨rfl, rfl⟩
        go_wp2_with fail
        go_ret
        exact ⟨by rw [HC.out]; rfl, rfl⟩
  · have HC : Hid (cellOf fst n h word = -1) := by unfold Hid cellOf; rw [if_neg (by omega)]
    have hno : slotOf h < 1 ∨ (n : Int) < slotOf h := by omega
    have HN := Lib.hid hno
    clear hin hno
    go_enter Try.func85, Try.ntmps85
    go_wp2_with fail
    refine (slot_any _ _ hh).mono ?_
    rintro e w' ⟨rfl, rfl⟩
    go_wp2_with fail
    refine (has_no b g n _ _ hc HN.out).mono ?_
    rintro e w' ⟨rfl, rfl⟩
    go_wp2_with fail
    go_ret
    exact ⟨by rw [HC.out]; rfl, rfl⟩
end

/-- None is live. -/
def freshS (n : Nat) : Slots := List.replicate n (0, false)
theorem fresh_length (n : Nat) : (freshS n).length = n := List.length_replicate
theorem stateInfo : (Try.prog.info? 95).map (fun i => (i.zero, i.size, i.bytes)) = some (some (.agg #[.int .i64 0, .bool false]), 2, 16) := by kernel_rfl
theorem statesOf (n : Nat) (hn : n ≤ 1000) (w : World) : (Instr.makeSlice 88 (.int .i64 (n : Int)) (.int .i64 (n : Int))).run Try.prog w = .ok (.slice (some ⟨w.heap.size, 0, none⟩) n n) (w.alloc (.cells (stc (freshS n)).toArray 95)) := by
  obtain ⟨i, hi, hzz⟩ := Option.map_eq_some_iff.1 stateInfo
  simp only [Prod.mk.injEq] at hzz
  obtain ⟨hz, hs, hb⟩ := hzz
  have := run_make w 88 95 i _ Try.underlying88 hi hz .i64 .i64 (n : Int) (n : Int) (by omega) (by omega) (by rw [hb]; omega) (by omega)
  rw [Int.toNat_natCast, hs] at this
  rw [this]
  have e : (Value.agg #[.int .i64 0, .bool false]).cells = #[.int .i64 0, .bool false] := rfl
  rw [e, stc_new, freshS]
theorem statesOf0 (w : World) : (Instr.makeSlice 88 (.int .i64 0) (.int .i64 0)).run Try.prog w = .ok (.slice (some ⟨w.heap.size, 0, none⟩) 0 0) (w.alloc (.cells (stc (freshS 0)).toArray 95)) := statesOf 0 (by omega) w
theorem statesOfMost (w : World) : (Instr.makeSlice 88 (.int .i64 1000) (.int .i64 1000)).run Try.prog w = .ok (.slice (some ⟨w.heap.size, 0, none⟩) 1000 1000) (w.alloc (.cells (stc (freshS 1000)).toArray 95)) := statesOf 1000 (by omega) w

/-- How many slots a new arena has, and its first cell. -/
def slotsOf (n : Int) : Nat := min n.toNat 1000
def firstOf (n : Int) : Int := if n < 0 then 0 else if 65536 < n then 65536 else n
theorem firstOf_lo (n : Int) : 0 ≤ firstOf n := by unfold firstOf; repeat' split
                                                   all_goals omega
theorem firstOf_hi (n : Int) : firstOf n ≤ 65536 := by unfold firstOf; repeat' split
                                                       all_goals omega

/-- A new arena, and nothing else has turned. -/
def ArMade (w : World) (fst : Int) (k : Nat) (e : Ending) (w' : World) : Prop :=
  e = .returned (.pointer (some ⟨w.heap.size + 1, 0, none⟩)) ∧ ArAt w' (w.heap.size + 1) w.heap.size fst (freshS k) false false ∧ Below w.heap.size w w' ∧ w'.heap.size = w.heap.size + 2

theorem arMade_of (w : World) (fst : Int) (k : Nat) (hk : k ≤ 1000) (h0 : 0 ≤ fst) (h1 : fst ≤ 65536) : ArMade w fst k (.returned (.pointer (some ⟨w.heap.size + 1, 0, none⟩)))
    ((w.alloc (.cells (stc (freshS k)).toArray 95)).alloc (.cells #[.int .i64 fst, .slice (some ⟨w.heap.size, 0, none⟩) k k, .bool false, .bool false] 90)) := by
  refine ⟨rfl, ⟨?_, ?_, by rw [fresh_length]; exact hk, h0, h1⟩, ((Below.refl _ _).alloc (Nat.le_refl _) _).alloc (by simp) _, by simp⟩
  · have := Whole.new (w.alloc (.cells (stc (freshS k)).toArray 95)) 90 #[.int .i64 fst, .slice (some ⟨w.heap.size, 0, none⟩) k k, .bool false, .bool false]
    rw [World.size_alloc] at this
    rw [fresh_length]
    exact this
  · exact (Whole.new w 95 (stc (freshS k)).toArray).alloc (.cells #[.int .i64 fst, .slice (some ⟨w.heap.size, 0, none⟩) k k, .bool false, .bool false] 90)

set_option maxHeartbeats 2000000 in
theorem arNew_any (first n : Int) (w : World) : Calls Try.prog 25 #[.int .i64 first, .int .i64 n] w (ArMade w (firstOf first) (slotsOf n)) := by
  have hf : first < 0 ∨ 65536 < first ∨ (0 ≤ first ∧ first ≤ 65536) := by omega
  have hsplit : (n < 0) ∨ (1000 < n) ∨ (∃ k : Nat, n = k ∧ k ≤ 1000) := by
    by_cases h1 : n < 0
    · exact .inl h1
    · by_cases h2 : 1000 < n
      · exact .inr (.inl h2)
      · exact .inr (.inr ⟨n.toNat, by omega, by omega⟩)
  have key : ∀ f' : Int, ((first < 0 ∧ f' = 0) ∨ (65536 < first ∧ f' = 65536) ∨ (0 ≤ first ∧ first ≤ 65536 ∧ f' = first)) → firstOf first = f' := by
    intro f' hh
    unfold firstOf
    repeat' split
    all_goals omega
  rcases hsplit with h | h | ⟨k, rfl, h⟩
  · have hm := statesOf0
    have hk : Hid (slotsOf n = 0) := by unfold Hid slotsOf; omega
    rcases hf with f | f | ⟨f, f'⟩
    · have HF := Lib.hid (key 0 (by omega))
      clear key
      go_enter Try.func25, Try.ntmps25
      go_wp2
      go_ret
      rw [hk.out, HF.out]
      exact arMade_of w 0 0 (by omega) (by omega) (by omega)
    · have HF := Lib.hid (key 65536 (by omega))
      have f0 : 0 ≤ first := by omega
      clear key
      go_enter Try.func25, Try.ntmps25
      go_wp2
      go_ret
      rw [hk.out, HF.out]
      exact arMade_of w 65536 0 (by omega) (by omega) (by omega)
    · have HF := Lib.hid (key first (by omega))
      clear key
      go_enter Try.func25, Try.ntmps25
      go_wp2
      go_ret
      rw [hk.out, HF.out]
      exact arMade_of w first 0 (by omega) f f'
  · have hm := statesOfMost
    have hk : Hid (slotsOf n = 1000) := by unfold Hid slotsOf; omega
    have hge : 0 ≤ n := by omega
    rcases hf with f | f | ⟨f, f'⟩
    · have HF := Lib.hid (key 0 (by omega))
      clear key
      go_enter Try.func25, Try.ntmps25
      go_wp2
      go_ret
      rw [hk.out, HF.out]
      exact arMade_of w 0 1000 (by omega) (by omega) (by omega)
    · have HF := Lib.hid (key 65536 (by omega))
      have f0 : 0 ≤ first := by omega
      clear key
      go_enter Try.func25, Try.ntmps25
      go_wp2
      go_ret
      rw [hk.out, HF.out]
      exact arMade_of w 65536 1000 (by omega) (by omega) (by omega)
    · have HF := Lib.hid (key first (by omega))
      clear key
      go_enter Try.func25, Try.ntmps25
      go_wp2
      go_ret
      rw [hk.out, HF.out]
      exact arMade_of w first 1000 (by omega) f f'
  · have hm := statesOf k h
    have hk : Hid (slotsOf (k : Int) = k) := by unfold Hid slotsOf; omega
    rcases hf with f | f | ⟨f, f'⟩
    · have HF := Lib.hid (key 0 (by omega))
      clear key
      go_enter Try.func25, Try.ntmps25
      go_wp2
      go_ret
      rw [hk.out, HF.out]
      exact arMade_of w 0 k (by omega) (by omega) (by omega)
    · have HF := Lib.hid (key 65536 (by omega))
      have f0 : 0 ≤ first := by omega
      clear key
      go_enter Try.func25, Try.ntmps25
      go_wp2
      go_ret
      rw [hk.out, HF.out]
      exact arMade_of w 65536 k (by omega) (by omega) (by omega)
    · have HF := Lib.hid (key first (by omega))
      clear key
      go_enter Try.func25, Try.ntmps25
      go_wp2
      go_ret
      rw [hk.out, HF.out]
      exact arMade_of w first k (by omega) f f'
end Go.Proofs.Ytejkhnphplpkeaa
