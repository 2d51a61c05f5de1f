/-
  Texts of our own, one behind the other (RbUps): what the laws' proofs rest on; each says at its head what it holds. No conditions.
-/
import Derived.Test.YtejkhnphplpkeaaPkZl
import Derived.Test.YtejkhnphplpkeaaPkZr
/-
  Layer 18: the reference's tree, pure: what a round makes of entries.
-/
namespace Go.Proofs.Ytejkhnphplpkeaa
open Go.RowKit
set_option linter.unusedVariables false

/-- The i-th piece of gaps. -/
def pieceI (gs : List Int) (N i : Nat) : List Int := (gs.drop (pcAt N i)).take (pc N i)
/-- A round's j-th node, its entry above, its greatest gap. -/
def nodeJ (L : List En) (gs : List Int) (inner : Bool) (j : Nat) : Nd := ndTo (piece L j) (if inner then pieceI gs L.length j else []) inner (pc L.length j)
def upJ (L : List En) (hs : List Int) (o j : Nat) : En := ⟨(enAt L (pcAt L.length j)).lo, (enAt L (pcAt L.length (j + 1) - 1)).hi, nth hs (o + j)⟩
def mostJ (L : List En) (gs : List Int) (inner : Bool) (j : Nat) : Int := most0 (nodeJ L gs inner j).gaps
def toE (u : Up) : En := ⟨u.lo, u.hi, u.h⟩
/-- Where the rounds stand. -/
def Rnd (es : List En) (hs : List Int) (r : Nat) (L : List En) (gs : List Int) (inner : Bool) (outs : List Nd) : Prop :=
  (r = 0 ∧ L = es ∧ gs = [] ∧ inner = false ∧ outs = []) ∨
  (r = 1 ∧ pcs es.length ≠ 1 ∧ L = (ups es (nth hs)).map toE ∧ gs = (ups es (nth hs)).map Up.g ∧ inner = true ∧ outs = (List.range (pcs es.length)).map fun i => leafN (piece es i))
section
variable {es : List En} {hs : List Int}
theorem nodeJ_leaf (h1 : 1 ≤ es.length) {j : Nat} (hj : j < pcs es.length) (gs : List Int) : nodeJ es gs false j = leafN (piece es j) := by
  unfold nodeJ
  rw [← piece_len h1 hj]
  exact ndTo_leaf _ _
theorem rnd_ups (h1 : 1 ≤ es.length) (h64 : es.length ≤ 64) : (List.range (pcs es.length)).map (upJ es hs 0) = (ups es (nth hs)).map toE := by
  unfold ups
  rw [List.map_map]
  apply List.map_congr_left
  intro j hj
  have hj := List.mem_range.1 hj
  obtain ⟨a, b⟩ := up_lo h1 h64 hj (nth hs j)
  unfold upJ
  rw [← a, ← b, Nat.zero_add]
  rfl
theorem rnd_most (h1 : 1 ≤ es.length) : (List.range (pcs es.length)).map (mostJ es [] false) = (ups es (nth hs)).map Up.g := by
  unfold ups
  rw [List.map_map]
  apply List.map_congr_left
  intro j hj
  have hj := List.mem_range.1 hj
  unfold mostJ
  rw [nodeJ_leaf h1 hj]
  rfl
theorem node_root {us : List Up} (h : pcs us.length = 1) : nodeJ (us.map toE) (us.map Up.g) true 0 = innerN us := by
  have e1 : (us.map toE).length = us.length := List.length_map _
  unfold nodeJ
  rw [if_pos rfl, piece_one (by rw [e1]; exact h)]
  unfold pieceI
  rw [e1, (pc_one h).1, (pc_one h).2]
  have e2 : ((us.map Up.g).drop 0).take us.length = us.map Up.g := by
    rw [List.drop_zero]
    exact List.take_of_length_le (by rw [List.length_map]; exact Nat.le_refl _)
  rw [e2]
  exact ndTo_inner us
/-- What a round needs. -/
structure RndOk (hs : List Int) (L : List En) (gs : List Int) (inner : Bool) (o : Nat) : Prop where
  one : 1 ≤ L.length
  few : L.length ≤ 64
  len : inner = true → gs.length = L.length
  bnd : ∀ i, i < L.length → 0 ≤ (enAt L i).lo ∧ (enAt L i).lo ≤ (enAt L i).hi ∧ (enAt L i).hi ≤ 2097152
  has : o + pcs L.length ≤ hs.length
  cnt : o ≤ 8
theorem rnd_ok (hf : Formed18 es) (hh : hs.length = cntN es.length) {r : Nat} {L : List En} {gs : List Int} {inner : Bool} {outs : List Nd} (h : Rnd es hs r L gs inner outs) : RndOk hs L gs inner outs.length := by
  have h1 := hf.2.1
  have h64 := hf.2.2
  have hK := pcs_few h1 h64
  have hc : pcs es.length ≤ cntN es.length ∧ (pcs es.length ≠ 1 → cntN es.length = pcs es.length + 1) := by unfold cntN; split <;> omega
  rcases h with ⟨_, rfl, rfl, rfl, rfl⟩ | ⟨_, hne, rfl, rfl, rfl, rfl⟩
  · exact ⟨h1, h64, fun h => (by cases h), fun i hi => (by have := hf.1 i hi; unfold EnOk at this; omega), (by simp; omega), (by simp)⟩
  · have e1 : ((ups es (nth hs)).map toE).length = pcs es.length := by rw [List.length_map, ups_len]
    have one : pcs (pcs es.length) = 1 := (pcs_one hK.1).2 hK.2
    refine ⟨by omega, by omega, fun _ => by rw [List.length_map, List.length_map], fun i hi => ?_, ?_, ?_⟩
    · rw [e1] at hi
      have e : enAt ((ups es (nth hs)).map toE) i = toE ((ups es (nth hs)).getD i ⟨0, 0, 0, 0⟩) := by
        unfold enAt
        rw [List.getD_eq_getElem?_getD, List.getElem?_map, List.getD_eq_getElem?_getD, List.getElem?_eq_getElem (by rw [ups_len]; exact hi)]
        rfl
      rw [e, ups_at hi]
      obtain ⟨a, b⟩ := up_lo h1 h64 hi (nth hs i)
      show 0 ≤ (upOf (piece es i) (nth hs i)).lo ∧ (upOf (piece es i) (nth hs i)).lo ≤ (upOf (piece es i) (nth hs i)).hi ∧ (upOf (piece es i) (nth hs i)).hi ≤ 2097152
      rw [a, b]
      have hc := formed_chain hf
      have p := pc_few h1 h64 hi
      have pin := pc_in h1 hi
      have ps := pcAt_succ es.length i
      have o1 := hc.one (pcAt es.length i) (by omega)
      have o2 := hc.one (pcAt es.length (i + 1) - 1) (by omega)
      have u := hc.up (show pcAt es.length i ≤ pcAt es.length (i + 1) - 1 by omega) (by omega)
      omega
    · rw [e1, one, hh, hc.2 hne]; simp
    · simp; omega
theorem rnd_step (hf : Formed18 es) (hh : hs.length = cntN es.length) {r : Nat} {L : List En} {gs : List Int} {inner : Bool} {outs : List Nd} (h : Rnd es hs r L gs inner outs) :
    (pcs L.length = 1 → outs ++ (List.range 1).map (nodeJ L gs inner) = treeN es (nth hs)) ∧
    (pcs L.length ≠ 1 → r = 0 ∧ Rnd es hs 1 ((List.range (pcs L.length)).map (upJ L hs outs.length)) ((List.range (pcs L.length)).map (mostJ L gs inner)) true (outs ++ (List.range (pcs L.length)).map (nodeJ L gs inner))) := by
  have h1 := hf.2.1
  have h64 := hf.2.2
  have hK := pcs_few h1 h64
  rcases h with ⟨rfl, rfl, rfl, rfl, rfl⟩ | ⟨rfl, hne, rfl, rfl, rfl, rfl⟩
  · refine ⟨fun hk => ?_, fun hk => ⟨rfl, .inr ⟨rfl, hk, rnd_ups h1 h64, rnd_most h1, rfl, ?_⟩⟩⟩
    · unfold treeN
      rw [if_pos hk]
      show [nodeJ L [] false 0] = _
      rw [nodeJ_leaf h1 (by omega), piece_one hk]
    · rw [List.nil_append]
      apply List.map_congr_left
      intro j hj
      exact nodeJ_leaf h1 (List.mem_range.1 hj) _
  · have e1 : ((ups es (nth hs)).map toE).length = pcs es.length := by rw [List.length_map, ups_len]
    have one : pcs (pcs es.length) = 1 := (pcs_one hK.1).2 hK.2
    refine ⟨fun _ => ?_, fun hk => (hk (by rw [e1]; exact one)).elim⟩
    unfold treeN
    rw [if_neg hne]
    show _ ++ [nodeJ _ _ true 0] = _
    rw [node_root (by rw [ups_len]; exact one)]
end
end Go.Proofs.Ytejkhnphplpkeaa
