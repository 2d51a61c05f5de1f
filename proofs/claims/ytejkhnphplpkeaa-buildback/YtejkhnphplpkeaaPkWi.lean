/-
  Texts of our own, one behind the other (SlLaw): what the laws' proofs rest on; each says at its head what it holds. No conditions.
-/
import Derived.Test.YtejkhnphplpkeaaPkWg
import Derived.Test.YtejkhnphplpkeaaPkWe
import Derived.Test.YtejkhnphplpkeaaPkWf
/-
  Layer 15: what the laws ask, in the form in which their walks want it.
-/
namespace Go.Proofs.Ytejkhnphplpkeaa
open Go.ChangeShapes Go.WideShapes Go.ChangeAt Go.RowKit
set_option linter.unusedVariables false

theorem NdF.gapE {n : Nd} (h : NdF n) (i : Nat) (hi : i < n.ends.length) : nth n.gaps i ≤ 2097152 := by
  have e := h.ent i hi
  have h1 := e.up
  have h2 := e.hi
  have h3 := (h.at_le i (by omega)).1
  have h4 := e.ok
  unfold holdsE at h4
  by_cases c : n.inner = true
  · rw [if_pos c] at h4; omega
  · rw [if_neg c] at h4
    by_cases c0 : nth n.slots i = 0
    · rw [if_pos c0] at h4; omega
    · rw [if_neg c0] at h4; omega
theorem fits_pack {n : Nd} (h : NdF n) (fs : Fits n.slots) : Fits (packN n) := by
  intro i hi
  rw [pack_len h.cnt] at hi
  rw [nth_pack h.cnt]
  have h8 := h.cnt.few
  have hsl := h.cnt.sl
  have hgl := h.cnt.gl
  unfold wordN
  by_cases h0 : i = 0
  · rw [if_pos h0]
    unfold Nd.first
    cases n.inner <;> simp <;> omega
  · rw [if_neg h0]
    by_cases h1 : i = 1
    · rw [if_pos h1]
      have := h.at_le 0 (by omega)
      simp only [Nd.at, if_true] at this
      omega
    · rw [if_neg h1]
      by_cases h2 : i < 10
      · rw [if_pos h2]
        by_cases h5 : i - 2 < n.ends.length
        · have := (h.ent _ h5).hi
          have := (h.ent _ h5).up
          have := (h.at_le _ (by omega : i - 2 ≤ n.ends.length)).1
          omega
        · rw [nth_out (by omega)]; omega
      · rw [if_neg h2]
        by_cases h3 : i < 18
        · rw [if_pos h3]
          by_cases h5 : i - 10 < n.slots.length
          · exact fs _ h5
          · rw [nth_out (by omega)]; omega
        · rw [if_neg h3]
          by_cases h5 : i - 18 < n.gaps.length
          · have := h.gap0 (i - 18) (by omega)
            have := h.gapE (i - 18) (by omega)
            omega
          · rw [nth_out (by omega)]; omega
theorem fits_nil : Fits [] := fun i hi => absurd hi (by simp)
/-- A node's words are that node's. -/
theorem unp_yes {n : Nd} (hf : NdF n) (fs : Fits n.slots) {w : World} {v : Value} {base : Nat} (h : Mw base w v (packN n)) : Calls Try.prog 89 #[v] w fun e w' => ∃ x y z, e = .returned (.tuple #[n.val x y z, .bool true]) ∧ NdMine w.heap.size w' n x y z ∧ Below w.heap.size w w' := by
  refine (unpack_c h.wds (fits_pack hf fs) (by rw [pack_len hf.cnt]; omega)).mono ?_
  rintro e w' ⟨hu, hb⟩
  rcases hu with ⟨m, x, y, z, rfl, hm, he, hM⟩ | ⟨_, hno⟩
  · obtain rfl := pack_inj hm.cnt hf.cnt he
    exact ⟨x, y, z, rfl, hM, hb⟩
  · exact absurd rfl (hno n hf)
theorem unp_none {w : World} {v : Value} {base : Nat} (h : Mw base w v []) : Calls Try.prog 89 #[v] w fun e w' => e = .returned (.tuple #[nilN, .bool false]) ∧ Below w.heap.size w w' := by
  refine (unpack_c h.wds fits_nil (by simp)).mono ?_
  rintro e w' ⟨hu, hb⟩
  rcases hu with ⟨m, x, y, z, rfl, hm, he, hM⟩ | ⟨rfl, hno⟩
  · have := pack_len hm.cnt
    rw [he] at this
    simp at this
  · exact ⟨rfl, hb⟩
/-- Whatever comes of words that are a node's but for one. -/
theorem unp_other {l : List Int} (hf : Fits l) {w : World} {v : Value} {base : Nat} (h : Mw base w v l) (hl : l.length ≤ 1000) : Calls Try.prog 89 #[v] w fun e w' => (∃ (m : Nd) (x y z : Value) (ok : Bool), e = .returned (.tuple #[m.val x y z, .bool ok]) ∧ (ok = true → NdF m ∧ packN m = l) ∧ NdIn w' m x y z) ∧ Below w.heap.size w w' := by
  refine (unpack_c h.wds hf (by omega)).mono ?_
  rintro e w' ⟨hu, hb⟩
  rcases hu with ⟨m, x, y, z, rfl, hm, he, hM⟩ | ⟨rfl, hno⟩
  · exact ⟨⟨m, x, y, z, true, rfl, fun _ => ⟨hm, he⟩, hM.here⟩, hb⟩
  · exact ⟨⟨Nd.nil, _, _, _, false, rfl, (fun h => by cases h), NdIn.nil _⟩, hb⟩
end Go.Proofs.Ytejkhnphplpkeaa
