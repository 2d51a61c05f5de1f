/-
  Layer 6: parts of parts, and parts that are joined again: what follows.
-/
import Derived.Test.YtmppodobgkhojaaAreaRef
namespace Go.Proofs.Ytmppodobgkhojaa
set_option linter.unusedVariables false

theorem Ar.ext' {a b : Ar} (h1 : a.s = b.s) (h2 : a.e = b.e) (h3 : a.p = b.p) (h4 : a.sh = b.sh) (h5 : a.bk = b.bk) (h6 : a.off = b.off) : a = b := by
  cases a; cases b; simp_all
theorem pg_self {x : Int} (h : x % 4096 = 0) : pg x = x := by unfold pg; omega
theorem upg_self {x : Int} (h : x % 4096 = 0) : upg x = x := by unfold upg; omega
theorem pg_le (x : Int) : pg x ≤ x ∧ x < pg x + 4096 ∧ pg x % 4096 = 0 := by unfold pg; omega
theorem upg_le (x : Int) : x ≤ upg x ∧ upg x < x + 4096 ∧ upg x % 4096 = 0 := by unfold upg; omega

section
variable {a : Ar}
theorem from_self (a : Ar) : a.from a.s = a := by
  apply Ar.ext' <;> simp [Ar.from]
theorem from_off (a : Ar) (x : Int) : (a.from x).off = if a.bk = 0 then a.off else a.off + (x - a.s) := rfl
/-- A part of an area that is formed is formed. -/
theorem formed_sub (h : Formed a) {x y : Int} (h1 : a.s ≤ x) (h2 : x < y) (h3 : y ≤ a.e) (h4 : x % 4096 = 0) (h5 : y % 4096 = 0) : Formed { a.from x with e := y } := by
  have g := (formed_iff a).1 h
  rw [formed_iff]
  simp only [Ar.from]
  by_cases hb : a.bk = 0
  · have := g.2.2.2.2.1 hb
    rw [if_pos hb]
    omega
  · rw [if_neg hb]
    omega
theorem formed_head (h : Formed a) {y : Int} (h2 : a.s < y) (h3 : y ≤ a.e) (h5 : y % 4096 = 0) : Formed { a with e := y } := by
  have := formed_sub h (Int.le_refl _) h2 h3 h.sp h5
  rwa [from_self] at this
theorem formed_tail (h : Formed a) {x : Int} (h1 : a.s ≤ x) (h2 : x < a.e) (h4 : x % 4096 = 0) : Formed (a.from x) := by
  have := formed_sub h h1 h2 (Int.le_refl _) h4 h.ep
  exact this
theorem part_head (h : Formed a) {y : Int} (h2 : a.s < y) (h3 : y ≤ a.e) (h5 : y % 4096 = 0) : PartA a a.s y ∧ a.part a.s y = { a with e := y } := by
  have e1 : max a.s a.s = a.s := by omega
  have e2 : min y a.e = y := by omega
  refine ⟨⟨h, by omega⟩, ?_⟩
  unfold Ar.part
  rw [e1, e2, pg_self h.sp, upg_self h5, from_self]
theorem part_tail (h : Formed a) {x : Int} (h1 : a.s ≤ x) (h2 : x < a.e) (h4 : x % 4096 = 0) : PartA a x a.e ∧ a.part x a.e = a.from x := by
  have e1 : max x a.s = x := by omega
  have e2 : min a.e a.e = a.e := by omega
  refine ⟨⟨h, by omega⟩, ?_⟩
  unfold Ar.part
  rw [e1, e2, pg_self h4, upg_self h.ep]
  rfl
/-- An area that is cut goes on from one part in the other. -/
theorem goes_cut (h : Formed a) {x : Int} (h1 : a.s < x) (h2 : x < a.e) (h4 : x % 4096 = 0) : GoesA { a with e := x } (a.from x) := by
  refine ⟨formed_head h h1 (by omega) h4, formed_tail h (by omega) h2 h4, rfl, rfl, rfl, rfl, fun hb => ?_⟩
  rw [from_off, if_neg hb]

/-- A part, where both ends are whole pages. -/
theorem part_at (h : Formed a) {lo hi : Int} (h1 : lo % 4096 = 0) (h2 : hi % 4096 = 0) : a.part lo hi = { a.from (max lo a.s) with e := min hi a.e } := by
  have g1 := h.sp
  have g2 := h.ep
  unfold Ar.part
  rw [pg_self (by omega), upg_self (by omega)]
/-- A part of a part. -/
theorem part_part (h : Formed a) {lo hi fr too : Int} (h1 : lo % 4096 = 0) (h2 : hi % 4096 = 0) (h3 : fr % 4096 = 0) (h4 : too % 4096 = 0) (hp : PartA a lo hi) :
    (PartA (a.part lo hi) fr too ↔ PartA a (max lo fr) (min hi too)) ∧ (a.part lo hi).part fr too = a.part (max lo fr) (min hi too) := by
  have g1 := h.sp
  have g2 := h.ep
  have hs := hp.some
  have hf : Formed (a.part lo hi) := by
    rw [part_at h h1 h2]
    exact formed_sub h (by omega) (by omega) (by omega) (by omega) (by omega)
  constructor
  · rw [part_at h h1 h2] at hf ⊢
    constructor
    · intro k
      refine ⟨h, ?_⟩
      have := k.some
      simp only [Ar.from] at this
      omega
    · intro k
      refine ⟨hf, ?_⟩
      have := k.some
      simp only [Ar.from]
      omega
  · rw [part_at hf h3 h4, part_at (lo := max lo fr) (hi := min hi too) h (by omega) (by omega), part_at h h1 h2]
    apply Ar.ext'
    · show max fr (max lo a.s) = max (max lo fr) a.s
      omega
    · show min too (min hi a.e) = min (min hi too) a.e
      omega
    · rfl
    · rfl
    · rfl
    · show (if a.bk = 0 then (if a.bk = 0 then a.off else a.off + (max lo a.s - a.s)) else (if a.bk = 0 then a.off else a.off + (max lo a.s - a.s)) + (max fr (max lo a.s) - max lo a.s)) = if a.bk = 0 then a.off else a.off + (max (max lo fr) a.s - a.s)
      by_cases hb : a.bk = 0
      · simp only [if_pos hb]
      · simp only [if_neg hb]
        omega
theorem no_part (h : Formed a) {lo hi fr too : Int} (hp : ¬ PartA a lo hi) : ¬ PartA a (max lo fr) (min hi too) := by
  intro k
  have := k.some
  exact hp ⟨h, by omega⟩
end
end Go.Proofs.Ytmppodobgkhojaa
