/-
  Texts of our own, one behind the other (BdPure, BdTree, BdFind): what the laws' proofs rest on; each says at its head what it holds. No conditions.
-/
import Derived.Test.YtejkhnphplpkeaaPkZa
/-
  Layer 18, pure: pieces, entries in a row, and the nodes that are made of them.
-/
namespace Go.Proofs.Ytejkhnphplpkeaa
open Go.RowKit
set_option linter.unusedVariables false

/-! Pieces. -/
/-- Into how many n things are cut. -/
def pcs (n : Nat) : Nat := (n + 7) / 8
/-- How many the i-th piece has, and where it begins. -/
def pc (n i : Nat) : Nat := n / pcs n + (if i < n % pcs n then 1 else 0)
def pcAt (n i : Nat) : Nat := i * (n / pcs n) + min i (n % pcs n)
theorem pcs_few {n : Nat} (h1 : 1 ≤ n) (h2 : n ≤ 64) : 1 ≤ pcs n ∧ pcs n ≤ 8 := by unfold pcs; omega
theorem pc_few {n i : Nat} (h1 : 1 ≤ n) (h2 : n ≤ 64) (hi : i < pcs n) : 1 ≤ pc n i ∧ pc n i ≤ 8 := by
  have key : ∀ n, n < 65 → ∀ i, i < 8 → 1 ≤ n → i < pcs n → 1 ≤ pc n i ∧ pc n i ≤ 8 := by decide +kernel
  have := pcs_few h1 h2
  exact key n (by omega) i (by omega) h1 hi
theorem pcAt_zero (n : Nat) : pcAt n 0 = 0 := by simp [pcAt]
theorem pcAt_succ (n i : Nat) : pcAt n (i + 1) = pcAt n i + pc n i := by
  unfold pcAt pc
  rw [Nat.succ_mul]
  by_cases h : i < n % pcs n
  · rw [if_pos h]; omega
  · rw [if_neg h]; omega
theorem pcAt_end {n : Nat} (h1 : 1 ≤ n) : pcAt n (pcs n) = n := by
  have h : 0 < pcs n := by unfold pcs; omega
  unfold pcAt
  rw [Nat.min_eq_right (Nat.le_of_lt (Nat.mod_lt _ h))]
  exact Nat.div_add_mod n (pcs n)
theorem pcAt_le {n i j : Nat} (h : i ≤ j) : pcAt n i ≤ pcAt n j := by
  induction j with
  | zero => have : i = 0 := by omega
            subst this; exact Nat.le_refl _
  | succ j ih =>
    by_cases hij : i = j + 1
    · subst hij; exact Nat.le_refl _
    · rw [pcAt_succ]
      have := ih (by omega)
      omega

/-! Entries in a row. -/
def enAt (l : List En) (i : Nat) : En := l.getD i ⟨0, 0, 0⟩
/-- Each one as it may be, and beginning where the one ahead ends. -/
structure Chain (l : List En) : Prop where
  one : ∀ i, i < l.length → 0 ≤ (enAt l i).h ∧ 65536 ≤ (enAt l i).lo ∧ (enAt l i).hi ≤ 2097152 ∧ (enAt l i).lo < (enAt l i).hi ∧ (enAt l i).lo.tmod 4096 = 0 ∧ (enAt l i).hi.tmod 4096 = 0
  next : ∀ i, i + 1 < l.length → (enAt l i).hi = (enAt l (i + 1)).lo
theorem enAt_drop (l : List En) (a i : Nat) : enAt (l.drop a) i = enAt l (a + i) := by
  unfold enAt
  simp only [List.getD_eq_getElem?_getD, List.getElem?_drop]
theorem enAt_take {l : List En} {k i : Nat} (h : i < k) : enAt (l.take k) i = enAt l i := by
  unfold enAt
  simp only [List.getD_eq_getElem?_getD, List.getElem?_take, if_pos h]
theorem Chain.part {l : List En} (h : Chain l) (a k : Nat) : Chain ((l.drop a).take k) := by
  refine ⟨fun i hi => ?_, fun i hi => ?_⟩
  · simp at hi
    rw [enAt_take (by omega), enAt_drop]
    exact h.one (a + i) (by omega)
  · simp at hi
    rw [enAt_take (by omega), enAt_take (by omega), enAt_drop, enAt_drop]
    exact h.next (a + i) (by omega)
theorem Chain.up {l : List En} (h : Chain l) {i j : Nat} (hij : i ≤ j) (hj : j < l.length) : (enAt l i).lo ≤ (enAt l j).lo ∧ (enAt l i).hi ≤ (enAt l j).hi := by
  induction j with
  | zero => have : i = 0 := by omega
            subst this; omega
  | succ j ih =>
    by_cases e : i = j + 1
    · subst e; omega
    · have := ih (by omega) (by omega)
      have h1 := h.next j hj
      have h2 := (h.one j (by omega)).2.2.2.1
      have h3 := (h.one (j + 1) hj).2.2.2.1
      omega
/-- A leaf of them. -/
def leafN (l : List En) : Nd := ⟨false, (enAt l 0).lo, l.map En.hi, l.map En.h, l.map fun e => if e.h = 0 then e.hi - e.lo else 0⟩
theorem nth_mapE (f : En → Int) {l : List En} {i : Nat} (h : i < l.length) : nth (l.map f) i = f (enAt l i) := by
  unfold nth enAt
  simp only [List.getD_eq_getElem?_getD, List.getElem?_map, List.getElem?_eq_getElem h, Option.map_some, Option.getD_some]
theorem leaf_formed {l : List En} (h : Chain l) (h1 : 1 ≤ l.length) (h8 : l.length ≤ 8) : NdF (leafN l) := by
  have o := h.one 0 (by omega)
  refine ⟨⟨by simp [leafN]; omega, by simp [leafN]; omega, by simp [leafN], by simp [leafN]⟩, o.2.1, o.2.2.2.2.1, fun i hi => ?_⟩
  have hi' : i < l.length := by simpa [leafN] using hi
  have oi := h.one i hi'
  have hat : (leafN l).at i = (enAt l i).lo := by
    unfold Nd.at
    by_cases h0 : i = 0
    · subst h0; rw [if_pos rfl]; rfl
    · rw [if_neg h0]
      show nth (l.map En.hi) (i - 1) = _
      rw [nth_mapE _ (by omega)]
      have := h.next (i - 1) (by omega)
      rw [show i - 1 + 1 = i by omega] at this
      exact this
  have he : nth (leafN l).ends i = (enAt l i).hi := nth_mapE _ hi'
  have hs : nth (leafN l).slots i = (enAt l i).h := nth_mapE _ hi'
  have hg : nth (leafN l).gaps i = if (enAt l i).h = 0 then (enAt l i).hi - (enAt l i).lo else 0 := nth_mapE _ hi'
  refine ⟨by rw [hat, he]; exact oi.2.2.2.1, by rw [he]; exact oi.2.2.1, by rw [he]; exact oi.2.2.2.2.2, ?_⟩
  rw [hs, hg, he, hat]
  unfold holdsE
  rw [if_neg (show ¬ (leafN l).inner = true by simp [leafN])]
  by_cases hz : (enAt l i).h = 0
  · rw [if_pos hz, if_pos hz]
  · rw [if_neg hz, if_neg hz]
    exact ⟨by have := oi.1; omega, rfl⟩
/-- A leaf's entries, gone through, are they. -/
theorem leaf_back {l : List En} (h : Chain l) : leafE (leafN l).lo ((leafN l).ends.zip (leafN l).slots) = l := by
  have key : ∀ (l : List En) (lo : Int), Chain l → (0 < l.length → lo = (enAt l 0).lo) → leafE lo ((l.map En.hi).zip (l.map En.h)) = l := by
    intro l
    induction l with
    | nil => intro lo _ _; rfl
    | cons e l ih =>
      intro lo hc hlo
      have e0 : lo = e.lo := hlo (by simp)
      subst e0
      have hc' : Chain l := by
        have := hc.part 1 l.length
        simpa using this
      simp only [List.map_cons, List.zip_cons_cons, leafE]
      rw [ih e.hi hc' (fun h0 => hc.next 0 (by simp; omega))]
  exact key l _ h (fun _ => rfl)

/-! The nodes above. -/
/-- The greatest of them, no less than 0. -/
def most0 (l : List Int) : Int := l.foldl max 0
theorem most0_ge (l : List Int) (b : Int) : b ≤ l.foldl max b := by
  induction l generalizing b with
  | nil => exact Int.le_refl _
  | cons a l ih => exact Int.le_trans (Int.le_max_left b a) (ih _)
theorem most0_le {l : List Int} {b k : Int} (hb : b ≤ k) (h : ∀ i, i < l.length → nth l i ≤ k) : l.foldl max b ≤ k := by
  induction l generalizing b with
  | nil => exact hb
  | cons a l ih =>
    refine ih (Int.max_le.2 ⟨hb, h 0 (by simp)⟩) (fun i hi => ?_)
    have := h (i + 1) (by simp; omega)
    rwa [nth_cons] at this
/-- Entries of one piece, as an inner node's one. -/
structure Up where
  lo : Int
  hi : Int
  h : Int
  g : Int
def upOf (l : List En) (h : Int) : Up := ⟨(enAt l 0).lo, (enAt l (l.length - 1)).hi, h, most0 (leafN l).gaps⟩
def innerN (l : List Up) : Nd := ⟨true, (l.getD 0 ⟨0, 0, 0, 0⟩).lo, l.map Up.hi, l.map Up.h, l.map Up.g⟩
theorem up_gap {l : List En} (h : Chain l) (h1 : 1 ≤ l.length) (h8 : l.length ≤ 8) (k : Int) : 0 ≤ (upOf l k).g ∧ (upOf l k).g ≤ (upOf l k).hi - (upOf l k).lo := by
  have hF := leaf_formed h h1 h8
  have o0 := h.one 0 (by omega)
  have u := h.up (Nat.zero_le (l.length - 1)) (by omega)
  refine ⟨most0_ge _ _, most0_le ?_ (fun i hi => ?_)⟩
  · show (0 : Int) ≤ (enAt l (l.length - 1)).hi - (enAt l 0).lo
    omega
  · have hi' : i < l.length := by simpa [leafN] using hi
    have oi := h.one i hi'
    have u1 := h.up (Nat.zero_le i) hi'
    have u2 := h.up (show i ≤ l.length - 1 by omega) (by omega)
    have e : nth (leafN l).gaps i = if (enAt l i).h = 0 then (enAt l i).hi - (enAt l i).lo else 0 := nth_mapE _ hi'
    rw [e]
    show _ ≤ (enAt l (l.length - 1)).hi - (enAt l 0).lo
    split <;> omega
end Go.Proofs.Ytejkhnphplpkeaa

/-
  Layer 18, pure: the tree of entries: its leaves, its root, that they are formed, and that it is gone through as it was.
-/
namespace Go.Proofs.Ytejkhnphplpkeaa
open Go.RowKit
set_option linter.unusedVariables false

/-- The i-th piece of entries. -/
def piece (es : List En) (i : Nat) : List En := (es.drop (pcAt es.length i)).take (pc es.length i)
/-- The nodes above the leaves: their entries, with the leaves' handles. -/
def ups (es : List En) (hd : Nat → Int) : List Up := (List.range (pcs es.length)).map fun i => upOf (piece es i) (hd i)
section
variable {es : List En} {hd : Nat → Int}
theorem pc_in (h1 : 1 ≤ es.length) {i : Nat} (hi : i < pcs es.length) : pcAt es.length i + pc es.length i ≤ es.length := by
  have h := pcAt_le (n := es.length) (show i + 1 ≤ pcs es.length by omega)
  rw [pcAt_end h1, pcAt_succ] at h
  exact h
theorem piece_len (h1 : 1 ≤ es.length) {i : Nat} (hi : i < pcs es.length) : (piece es i).length = pc es.length i := by
  have := pc_in h1 hi
  simp [piece]
  omega
theorem piece_at {i j : Nat} (hj : j < pc es.length i) : enAt (piece es i) j = enAt es (pcAt es.length i + j) := by
  unfold piece
  rw [enAt_take hj, enAt_drop]
theorem piece_chain (h : Chain es) (i : Nat) : Chain (piece es i) := h.part _ _
theorem piece_formed (h : Chain es) (h1 : 1 ≤ es.length) (h64 : es.length ≤ 64) {i : Nat} (hi : i < pcs es.length) : NdF (leafN (piece es i)) := by
  have := pc_few h1 h64 hi
  have := piece_len h1 hi
  exact leaf_formed (piece_chain h i) (by omega) (by omega)
theorem take_piece (h1 : 1 ≤ es.length) {i : Nat} (hi : i < pcs es.length) : es.take (pcAt es.length i) ++ piece es i = es.take (pcAt es.length (i + 1)) := by
  rw [pcAt_succ]
  unfold piece
  rw [List.take_add]
theorem ups_len : (ups es hd).length = pcs es.length := by simp [ups]
theorem ups_at {i : Nat} (hi : i < pcs es.length) : (ups es hd).getD i ⟨0, 0, 0, 0⟩ = upOf (piece es i) (hd i) := by
  unfold ups
  rw [List.getD_eq_getElem?_getD, List.getElem?_map, List.getElem?_range hi]
  rfl
theorem nth_ups (f : Up → Int) {i : Nat} (hi : i < pcs es.length) : nth ((ups es hd).map f) i = f (upOf (piece es i) (hd i)) := by
  unfold nth ups
  rw [List.getD_eq_getElem?_getD, List.getElem?_map, List.getElem?_map, List.getElem?_range hi]
  rfl
theorem up_lo (h1 : 1 ≤ es.length) (h64 : es.length ≤ 64) {i : Nat} (hi : i < pcs es.length) (k : Int) : (upOf (piece es i) k).lo = (enAt es (pcAt es.length i)).lo ∧ (upOf (piece es i) k).hi = (enAt es (pcAt es.length (i + 1) - 1)).hi := by
  have hp := pc_few h1 h64 hi
  have hl := piece_len h1 hi
  refine ⟨?_, ?_⟩
  · show (enAt (piece es i) 0).lo = _
    rw [piece_at (by omega), Nat.add_zero]
  · show (enAt (piece es i) ((piece es i).length - 1)).hi = _
    rw [hl, piece_at (by omega), pcAt_succ]
    rw [show pcAt es.length i + (pc es.length i - 1) = pcAt es.length i + pc es.length i - 1 by omega]
/-- The root, where there is more than one leaf. -/
theorem root_formed (h : Chain es) (h1 : 1 ≤ es.length) (h64 : es.length ≤ 64) (hh : ∀ i, i < pcs es.length → 0 < hd i) : NdF (innerN (ups es hd)) := by
  have hk := pcs_few h1 h64
  have hul : (ups es hd).length = pcs es.length := ups_len
  have hlo : (innerN (ups es hd)).lo = (enAt es 0).lo := by
    show ((ups es hd).getD 0 ⟨0, 0, 0, 0⟩).lo = _
    rw [ups_at (by omega), (up_lo h1 h64 (by omega) _).1, pcAt_zero]
  have o := h.one 0 (by omega)
  refine ⟨⟨by simp [innerN]; omega, by simp [innerN]; omega, by simp [innerN], by simp [innerN]⟩, by rw [hlo]; exact o.2.1, by rw [hlo]; exact o.2.2.2.2.1, fun i hi => ?_⟩
  have hi' : i < pcs es.length := by simpa [innerN, hul] using hi
  have hin := pc_in h1 hi'
  have hp := pc_few h1 h64 hi'
  have hpl := piece_len h1 hi'
  obtain ⟨u1, u2⟩ := up_lo h1 h64 hi' (hd i)
  have he : nth (innerN (ups es hd)).ends i = (upOf (piece es i) (hd i)).hi := nth_ups Up.hi hi'
  have hs : nth (innerN (ups es hd)).slots i = hd i := nth_ups Up.h hi'
  have hg : nth (innerN (ups es hd)).gaps i = (upOf (piece es i) (hd i)).g := nth_ups Up.g hi'
  have hat : (innerN (ups es hd)).at i = (upOf (piece es i) (hd i)).lo := by
    unfold Nd.at
    by_cases h0 : i = 0
    · subst h0
      rw [if_pos rfl, hlo, u1, pcAt_zero]
    · rw [if_neg h0]
      have e1 : nth (innerN (ups es hd)).ends (i - 1) = (upOf (piece es (i - 1)) (hd (i - 1))).hi := nth_ups Up.hi (by omega)
      rw [e1, (up_lo h1 h64 (show i - 1 < pcs es.length by omega) _).2, u1, show i - 1 + 1 = i by omega]
      have hp1 := pc_few h1 h64 (show i - 1 < pcs es.length by omega)
      have hs1 := pcAt_succ es.length (i - 1)
      rw [show i - 1 + 1 = i by omega] at hs1
      have := h.next (pcAt es.length i - 1) (by omega)
      rw [show pcAt es.length i - 1 + 1 = pcAt es.length i by omega] at this
      exact this
  have ug := up_gap (piece_chain h i) (by omega) (by omega) (hd i)
  have hlast := h.one (pcAt es.length (i + 1) - 1) (by rw [pcAt_succ]; omega)
  have hfirst := h.one (pcAt es.length i) (by omega)
  have hup := h.up (show pcAt es.length i ≤ pcAt es.length (i + 1) - 1 by rw [pcAt_succ]; omega) (by rw [pcAt_succ]; omega)
  refine ⟨by rw [hat, he, u1, u2]; omega, by rw [he, u2]; exact hlast.2.2.1, by rw [he, u2]; exact hlast.2.2.2.2.2, ?_⟩
  rw [hs, hg, he, hat]
  unfold holdsE
  rw [if_pos (show (innerN (ups es hd)).inner = true from rfl)]
  exact ⟨hh i hi', ug.1, ug.2⟩

/-! Gone through. -/
/-- A leaf, wherever it lies. -/
theorem thru_leafAt {ls : List (List Int)} {l : List En} {h : Int} (hc : Chain l) (h1 : 1 ≤ l.length) (h8 : l.length ≤ 8) (hw : wordsAt ls h = some (packN (leafN l))) (k : Nat) (s : Thru) (hs : s.ns.length ≠ 64) : thruW ls (k + 1) h s = (some ⟨s.es ++ l, s.ns ++ [h]⟩, 2 + 3 * l.length) := by
  have e := nodeW_pack (leaf_formed hc h1 h8)
  unfold thruW
  rw [if_neg hs, hw]
  simp only
  rw [e]
  simp only
  rw [show (leafN l).inner = false from rfl, thru_leaf]
  have hb := leaf_back hc
  simp only
  rw [hb]
  have hl : (leafN l).ends.length = l.length := by simp [leafN]
  rw [hl]
  rfl
/-- The leaves, from the i-th one on. -/
theorem thru_leaves {ls : List (List Int)} (h : Chain es) (h1 : 1 ≤ es.length) (h64 : es.length ≤ 64) (hw : ∀ i, i < pcs es.length → wordsAt ls (hd i) = some (packN (leafN (piece es i)))) (k m i : Nat) (hm : i + m = pcs es.length) (lo : Int) (ns : List Int) (hn : ns.length + m ≤ 63) (f : Nat → Int) :
    (thruEW (thruW ls (k + 1)) true lo ((List.range' i m).map fun j => (f j, hd j)) ⟨es.take (pcAt es.length i), ns⟩) = (some ⟨es, ns ++ (List.range' i m).map hd⟩, 2 * m + 3 * (es.length - pcAt es.length i)) := by
  induction m generalizing i lo ns with
  | zero =>
    have e : i = pcs es.length := by omega
    subst e
    rw [pcAt_end h1]
    simp [thruEW]
  | succ m ih =>
    have hi : i < pcs es.length := by omega
    have hp := pc_few h1 h64 hi
    have hpl := piece_len h1 hi
    have hin := pc_in h1 hi
    have e1 := thru_leafAt (piece_chain h i) (by omega) (by omega) (hw i hi) k ⟨es.take (pcAt es.length i), ns⟩ (by simp only; omega)
    rw [List.range'_succ]
    simp only [List.map_cons]
    unfold thruEW
    simp only [if_true]
    rw [e1]
    simp only
    rw [take_piece h1 hi, ih (i + 1) (by omega) (f i) (ns ++ [hd i]) (by simp; omega)]
    rw [pcAt_succ, hpl]
    congr 1
    · simp
    · omega
/-- A tree of two levels. -/
theorem thru_two {ls : List (List Int)} {root : Int} (h : Chain es) (h1 : 1 ≤ es.length) (h64 : es.length ≤ 64) (hh : ∀ i, i < pcs es.length → 0 < hd i) (hw : ∀ i, i < pcs es.length → wordsAt ls (hd i) = some (packN (leafN (piece es i)))) (hr : wordsAt ls root = some (packN (innerN (ups es hd)))) :
    thruW ls 8 root ⟨[], []⟩ = (some ⟨es, root :: (List.range (pcs es.length)).map hd⟩, 2 + 3 * pcs es.length + (2 * pcs es.length + 3 * es.length)) := by
  have hk := pcs_few h1 h64
  have hF := root_formed h h1 h64 hh
  have e := nodeW_pack hF
  have hz : (innerN (ups es hd)).ends.zip (innerN (ups es hd)).slots = (List.range' 0 (pcs es.length)).map fun j => ((upOf (piece es j) (hd j)).hi, hd j) := by
    show ((ups es hd).map Up.hi).zip ((ups es hd).map Up.h) = _
    unfold ups
    rw [List.map_map, List.map_map, List.zip_map', List.range_eq_range']
    rfl
  have hl : (innerN (ups es hd)).ends.length = pcs es.length := by simp [innerN, ups]
  have t := thru_leaves (ls := ls) h h1 h64 hw 6 (pcs es.length) 0 (by omega) (innerN (ups es hd)).lo [root] (by simp; omega) (fun j => (upOf (piece es j) (hd j)).hi)
  rw [pcAt_zero] at t
  simp only [List.take_zero, Nat.sub_zero] at t
  unfold thruW
  rw [if_neg (by simp), hr]
  simp only
  rw [e]
  simp only
  rw [show (innerN (ups es hd)).inner = true from rfl, hz, hl]
  simp only [List.nil_append]
  rw [t, List.range_eq_range']
  rfl
end
end Go.Proofs.Ytejkhnphplpkeaa

/-
  Layer 18, pure: each address is found in its entry; pieces that are counted out in turns.
-/
namespace Go.Proofs.Ytejkhnphplpkeaa
open Go.RowKit
set_option linter.unusedVariables false

section
variable {es : List En} {hd : Nat → Int}
/-- Which piece has the g-th entry. -/
theorem piece_of (h1 : 1 ≤ es.length) {g : Nat} (hg : g < es.length) : ∃ i, i < pcs es.length ∧ pcAt es.length i ≤ g ∧ g < pcAt es.length i + pc es.length i := by
  have key : ∀ k, k ≤ pcs es.length → g < pcAt es.length k → ∃ i, i < k ∧ pcAt es.length i ≤ g ∧ g < pcAt es.length i + pc es.length i := by
    intro k
    induction k with
    | zero => intro _ h; rw [pcAt_zero] at h; omega
    | succ k ih =>
      intro hk hlt
      by_cases h : g < pcAt es.length k
      · obtain ⟨i, a, b, c⟩ := ih (by omega) h
        exact ⟨i, by omega, b, c⟩
      · rw [pcAt_succ] at hlt
        exact ⟨k, by omega, by omega, hlt⟩
  exact key _ (Nat.le_refl _) (by rw [pcAt_end h1]; exact hg)
/-- In a leaf. -/
theorem look_leaf {l : List En} (h : Chain l) (h1 : 1 ≤ l.length) (h8 : l.length ≤ 8) {addr : Int} {g : Nat} (hg : g < l.length) (a0 : (enAt l g).lo ≤ addr) (a1 : addr < (enAt l g).hi) : (lookW (packN (leafN l)) addr).1 = ((enAt l g).h, false, true) := by
  have hF := leaf_formed h h1 h8
  have hl : (leafN l).ends.length = l.length := by simp [leafN]
  have hs : nth (leafN l).slots g = (enAt l g).h := nth_mapE _ hg
  have := (look_pack hF.cnt addr).1 g (by omega) (fun j hj => by
    have e : nth (leafN l).ends j = (enAt l j).hi := nth_mapE _ (by omega)
    rw [e]
    have u := h.up (show j + 1 ≤ g by omega) hg
    have n := h.next j (by omega)
    omega) (by
    have e : nth (leafN l).ends g = (enAt l g).hi := nth_mapE _ hg
    rw [e]; exact a1)
  rw [hs] at this
  exact this
theorem find_leaf {ls : List (List Int)} {l : List En} {root : Int} (h : Chain l) (h1 : 1 ≤ l.length) (h8 : l.length ≤ 8) (hw : wordsAt ls root = some (packN (leafN l))) {addr : Int} {g : Nat} (hg : g < l.length) (a0 : (enAt l g).lo ≤ addr) (a1 : addr < (enAt l g).hi) (k : Nat) : (findW ls addr (k + 1) root).1 = ((enAt l g).h, true) := by
  have e := look_leaf h h1 h8 hg a0 a1
  unfold findW
  rw [hw]
  simp only
  rw [e]
  rfl
/-- In a tree of two levels. -/
theorem find_two {ls : List (List Int)} {root : Int} (h : Chain es) (h1 : 1 ≤ es.length) (h64 : es.length ≤ 64) (hh : ∀ i, i < pcs es.length → 0 < hd i) (hw : ∀ i, i < pcs es.length → wordsAt ls (hd i) = some (packN (leafN (piece es i)))) (hr : wordsAt ls root = some (packN (innerN (ups es hd))))
    {addr : Int} {g : Nat} (hg : g < es.length) (a0 : (enAt es g).lo ≤ addr) (a1 : addr < (enAt es g).hi) (k : Nat) : (findW ls addr (k + 2) root).1 = ((enAt es g).h, true) := by
  obtain ⟨i, hi, g0, g1⟩ := piece_of h1 hg
  have hF := root_formed h h1 h64 hh
  have hl : (innerN (ups es hd)).ends.length = pcs es.length := by simp [innerN, ups]
  have hp := pc_few h1 h64 hi
  have hpl := piece_len h1 hi
  have hin := pc_in h1 hi
  have e := (look_pack hF.cnt addr).1 i (by omega) (fun j hj => by
    have e : nth (innerN (ups es hd)).ends j = (upOf (piece es j) (hd j)).hi := nth_ups Up.hi (by omega)
    rw [e, (up_lo h1 h64 (by omega) _).2]
    have hpj := pc_few h1 h64 (show j < pcs es.length by omega)
    have hs := pcAt_succ es.length j
    have hle := pcAt_le (n := es.length) (show j + 1 ≤ i by omega)
    have u := h.up (show pcAt es.length (j + 1) - 1 + 1 ≤ g by omega) hg
    have n := h.next (pcAt es.length (j + 1) - 1) (by omega)
    omega) (by
    have e : nth (innerN (ups es hd)).ends i = (upOf (piece es i) (hd i)).hi := nth_ups Up.hi hi
    rw [e, (up_lo h1 h64 hi _).2]
    have u := h.up (show g ≤ pcAt es.length (i + 1) - 1 by rw [pcAt_succ]; omega) (by rw [pcAt_succ]; omega)
    omega)
  have hs : nth (innerN (ups es hd)).slots i = hd i := nth_ups Up.h hi
  rw [hs, show (innerN (ups es hd)).inner = true from rfl] at e
  have f := find_leaf (ls := ls) (root := hd i) (piece_chain h i) (by omega) (by omega) (hw i hi) (addr := addr) (g := g - pcAt es.length i) (by omega) (by rw [piece_at (by omega), show pcAt es.length i + (g - pcAt es.length i) = g by omega]; exact a0) (by rw [piece_at (by omega), show pcAt es.length i + (g - pcAt es.length i) = g by omega]; exact a1) k
  rw [piece_at (by omega), show pcAt es.length i + (g - pcAt es.length i) = g by omega] at f
  unfold findW
  rw [hr]
  simp only
  rw [e]
  simp only [if_true]
  exact f
end

/-! Pieces that are counted out in turns. -/
def turns (k t j : Nat) : Nat := t / k + (if j < t % k then 1 else 0)
theorem turns_zero (k j : Nat) : turns k 0 j = 0 := by simp [turns]
theorem turns_succ {k t j : Nat} (hk : 0 < k) (hj : j < k) : turns k (t + 1) j = turns k t j + (if t % k = j then 1 else 0) := by
  unfold turns
  have hm := Nat.mod_lt t hk
  have hd := Nat.div_add_mod t k
  by_cases h : t % k + 1 = k
  · have e1 : (t + 1) / k = t / k + 1 := by
      have : t + 1 = k * (t / k + 1) := by rw [Nat.mul_add, Nat.mul_one]; omega
      rw [this, Nat.mul_div_cancel_left _ hk]
    have e2 : (t + 1) % k = 0 := by
      have : t + 1 = k * (t / k + 1) := by rw [Nat.mul_add, Nat.mul_one]; omega
      rw [this, Nat.mul_mod_right]
    rw [e1, e2]
    by_cases h1 : t % k = j
    · rw [if_pos h1, if_neg (by omega), if_neg (by omega)]
    · rw [if_neg h1, if_neg (by omega), if_pos (by omega)]
  · have e : t + 1 = k * (t / k) + (t % k + 1) := by omega
    have e1 : (t + 1) / k = t / k := by
      rw [e, Nat.mul_add_div hk, Nat.div_eq_of_lt (show t % k + 1 < k by omega)]
      omega
    have e2 : (t + 1) % k = t % k + 1 := by
      rw [e, Nat.mul_add_mod, Nat.mod_eq_of_lt (show t % k + 1 < k by omega)]
    rw [e1, e2]
    by_cases h1 : t % k = j
    · rw [if_pos h1, if_pos (by omega), if_neg (by omega)]
    · rw [if_neg h1]
      by_cases h2 : j < t % k
      · rw [if_pos (by omega), if_pos h2]
      · rw [if_neg (by omega), if_neg h2]
theorem turns_pc (n j : Nat) : turns (pcs n) n j = pc n j := rfl
/-- How many nodes there are. -/
def cntN (n : Nat) : Nat := if pcs n = 1 then 1 else pcs n + 1
theorem pcs_twice {n : Nat} (h1 : 1 ≤ n) (h2 : n ≤ 64) : pcs (pcs n) = 1 := by unfold pcs; omega
theorem pcs_one {n : Nat} (h1 : 1 ≤ n) : pcs n = 1 ↔ n ≤ 8 := by unfold pcs; omega
end Go.Proofs.Ytejkhnphplpkeaa
