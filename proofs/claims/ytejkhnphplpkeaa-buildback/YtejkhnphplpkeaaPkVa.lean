/-
  Texts of our own, one behind the other (BdRoot): what the laws' proofs rest on; each says at its head what it holds. No conditions.
-/
import Derived.Test.YtejkhnphplpkeaaPkZr
import Derived.Test.YtejkhnphplpkeaaPkZx
import Derived.Test.YtejkhnphplpkeaaPkG
import Derived.Test.YtejkhnphplpkeaaPkZi
/-
  Layer 18, pure: the root of a list's tree.
-/
namespace Go.Proofs.Ytejkhnphplpkeaa
open Go.RowKit
set_option linter.unusedVariables false

def rootN (es : List En) (hd : Nat → Int) : Nd := if pcs es.length = 1 then leafN es else innerN (ups es hd)
theorem tree_last (es : List En) (hd : Nat → Int) : ∃ fr, treeN es hd = fr ++ [rootN es hd] := by
  unfold treeN rootN
  split
  · exact ⟨[], rfl⟩
  · exact ⟨_, rfl⟩
theorem root_is {es : List En} {hd : Nat → Int} {ps : List Pd} (h : ps.map Pd.n = treeN es hd) : 1 ≤ ps.length ∧ (pdAt ps (ps.length - 1)).n = rootN es hd := by
  obtain ⟨fr, e⟩ := tree_last es hd
  rw [e] at h
  have hl : ps.length = fr.length + 1 := by have := congrArg List.length h; simpa using this
  refine ⟨by omega, ?_⟩
  have := congrArg (fun l => l[ps.length - 1]?) h
  simp only [List.getElem?_map] at this
  rw [List.getElem?_append_right (by omega), show ps.length - 1 - fr.length = 0 by omega, List.getElem?_eq_getElem (show ps.length - 1 < ps.length by omega)] at this
  simp only [Option.map_some, List.getElem?_cons_zero, Option.some.injEq] at this
  unfold pdAt
  rw [List.getD_eq_getElem?_getD, List.getElem?_eq_getElem (show ps.length - 1 < ps.length by omega)]
  exact this
theorem root_most {es : List En} {hd : Nat → Int} (h1 : 1 ≤ es.length) : most0 (rootN es hd).gaps = most0 (es.map gapE) := by
  unfold rootN
  split
  · rfl
  · exact most0_up h1
theorem root_ends {es : List En} {hd : Nat → Int} (h1 : 1 ≤ es.length) (h64 : es.length ≤ 64) : (rootN es hd).lo = (enAt es 0).lo ∧ nth (rootN es hd).ends ((rootN es hd).ends.length - 1) = (enAt es (es.length - 1)).hi := by
  have hk := pcs_few h1 h64
  unfold rootN
  split
  · refine ⟨rfl, ?_⟩
    show nth (es.map En.hi) ((es.map En.hi).length - 1) = _
    rw [List.length_map, nth_mapE _ (by omega)]
  · refine ⟨?_, ?_⟩
    · show ((ups es hd).getD 0 ⟨0, 0, 0, 0⟩).lo = _
      rw [ups_at (by omega), (up_lo h1 h64 (by omega) _).1, pcAt_zero]
    · show nth ((ups es hd).map Up.hi) (((ups es hd).map Up.hi).length - 1) = _
      rw [List.length_map, ups_len, nth_ups Up.hi (by omega), (up_lo h1 h64 (show pcs es.length - 1 < pcs es.length by omega) _).2]
      rw [show pcs es.length - 1 + 1 = pcs es.length by omega, pcAt_end h1]
theorem most0_nil : most0 [] = 0 := rfl
theorem most0_one (a : Int) (l : List Int) : most0 (a :: l) = max (max 0 a) (most0 l) := by
  have := most0_app [a] l
  simpa [most0] using this
theorem ents_most (X : List Ar) : ∀ (hs : List Int) (at_ : Int), hs.length = X.length → (∀ h ∈ hs, 0 < h) → most0 ((entsFrom at_ (X.zip hs)).map gapE) = mostL (gapsFrom at_ X) := by
  induction X with
  | nil =>
    intro hs at_ _ _
    simp only [List.zip_nil_left]
    unfold entsFrom gapsFrom
    split
    · simp [most0, mostL, gapE]; omega
    · rfl
  | cons a X ih =>
    intro hs at_ hl hh
    match hs, hl with
    | h :: hs, hl =>
      have h0 := hh h (by simp)
      have i := ih hs a.e (by simpa using hl) (fun x hx => hh x (by simp [hx]))
      simp only [List.zip_cons_cons]
      unfold entsFrom gapsFrom
      rw [List.map_append, List.map_cons, most0_app, most0_one]
      have e0 : gapE ⟨a.s, a.e, h⟩ = 0 := by unfold gapE; rw [if_neg (by simp only; omega)]
      rw [e0, i]
      have ge := most0_ge ((entsFrom a.e (X.zip hs)).map gapE) 0
      have ge2 : 0 ≤ mostL (gapsFrom a.e X) := by rw [← i]; exact ge
      split
      · simp [most0, mostL, gapE]; omega
      · simp [most0]; omega
theorem ents_last {z : Ar} {X : List Ar} (hz : After' z X) : ∀ (hs : List Int) (at_ : Int), hs.length = X.length → at_ ≤ 2097152 → (entsFrom at_ (X.zip hs) = [] ∧ at_ = 2097152) ∨ (entsFrom at_ (X.zip hs) ≠ [] ∧ (enAt (entsFrom at_ (X.zip hs)) ((entsFrom at_ (X.zip hs)).length - 1)).hi = 2097152) := by
  induction X generalizing z with
  | nil =>
    intro hs at_ _ h
    simp only [List.zip_nil_left]
    unfold entsFrom
    split
    · exact .inr ⟨by simp, rfl⟩
    · exact .inl ⟨rfl, by omega⟩
  | cons a X ih =>
    intro hs at_ hl h
    match hs, hl with
    | x :: hs, hl =>
      have hF := formed_num hz.1.1
      have i := ih hz.2 hs a.e (by simpa using hl) (by omega)
      right
      simp only [List.zip_cons_cons]
      unfold entsFrom
      refine ⟨by simp, ?_⟩
      have key : ∀ (p : List En) (e : En) (q : List En), (enAt (p ++ e :: q) ((p ++ e :: q).length - 1)) = if q = [] then e else enAt q (q.length - 1) := by
        intro p e q
        unfold enAt
        rw [List.getD_eq_getElem?_getD, List.getElem?_append_right (by simp), List.getD_eq_getElem?_getD]
        split
        · next hq => subst hq; simp
        · next hq =>
          have : 1 ≤ q.length := by cases q with | nil => exact (hq rfl).elim | cons _ _ => simp
          rw [show (p ++ e :: q).length - 1 - p.length = (q.length - 1) + 1 by simp; omega]
          simp
      rw [key]
      split
      · next hq =>
        rcases i with ⟨_, i⟩ | ⟨i, _⟩
        · exact i
        · exact (i hq).elim
      · next hq =>
        rcases i with ⟨i, _⟩ | ⟨_, i⟩
        · exact (hq i).elim
        · exact i
end Go.Proofs.Ytejkhnphplpkeaa
