/-
  Layer 6: what the reference answers, page by page.
-/
import Derived.Test.YtmppodobgkhojaaAreaMayDo
namespace Go.Proofs.Ytmppodobgkhojaa
open Go.ChangeShapes Go.WideShapes Go.ChangeAt Go.RowKit
set_option linter.unusedVariables false

/-- Whether an area is formed, in plain numbers. -/
theorem formed_iff (a : Ar) : Formed a ↔ (65536 ≤ a.s ∧ a.s < a.e ∧ a.e ≤ 2097152 ∧ a.s % 4096 = 0 ∧ a.e % 4096 = 0) ∧ (0 ≤ a.p ∧ a.p ≤ 7 ∧ 0 ≤ a.bk ∧ a.bk ≤ 9) ∧ 0 ≤ a.off ∧ a.off % 4096 = 0 ∧ (a.bk = 0 → a.off = 0) ∧ a.off ≤ 1099511627776 - (a.e - a.s) := by
  constructor
  · intro h
    have h1 := h.placed.lo
    have h2 := h.placed.some
    have h3 := h.placed.hi
    have h4 := h.sp
    have h5 := h.ep
    have h6 := h.off0
    have h7 := h.p0
    have h8 := h.p7
    have h9 := h.backed.none
    have h10 : 0 ≤ a.bk ∧ a.bk ≤ 9 := by
      by_cases hb : a.bk = 0
      · omega
      · have := (h.backed.some hb).1
        omega
    exact ⟨⟨h1, h2, h3, h4, h5⟩, ⟨h7, h8, h10.1, h10.2⟩, h6.1, h6.2.2, h9, h6.2.1⟩
  · rintro ⟨⟨h1, h2, h3, h4, h5⟩, ⟨h7, h8, h10, h11⟩, h12, h13, h14, h15⟩
    exact ⟨⟨by rw [tmod_up (by omega)]; exact h4, by rw [tmod_up (by omega)]; exact h5, h1, h2, h3⟩, ⟨h14, (fun hb => ⟨⟨by omega, h11⟩, by rw [tmod_up h12]; exact h13, h12, h15⟩)⟩, h7, h8⟩

set_option maxHeartbeats 2000000 in
theorem refFormed_any (a : Ar) : Says 23 #[a.v] (.bool (decide (Formed a))) := by
  intro w
  have HR := Lib.hid (tells_it (Formed a))
  generalize decide (Formed a) = r at *
  rw [formed_iff] at HR
  obtain ⟨s, t, p, sh, bk, off⟩ := a
  unfold Ar.v
  simp only at HR
  go_enter Try.func23, Try.ntmps23
  go_wp2
  all_goals
    go_ret
    refine ⟨says_bool (HR.out.is ⟨fun h => ?_, fun h => ?_⟩), below_new _ _⟩
    · simp at h
      all_goals first | omega | (clear HR; simp_all; done) | (clear HR; simp_all; omega)
    · simp
      all_goals first | omega | (clear HR; simp_all; done) | (clear HR; simp_all; omega)

theorem tdiv_up {x : Int} (h : 0 ≤ x) : x.tdiv 4096 = x / 4096 := Int.tdiv_eq_ediv_of_nonneg h

/-- What a page, by its number, has. -/
def Ar.at (a : Ar) (p : Int) : At := ⟨a.p, a.sh, a.bk, if 0 < a.bk then a.off + 4096 * (p - a.s / 4096) else 0⟩

set_option maxHeartbeats 2000000 in
theorem refAttr_in (a : Ar) (n : Int) (h0 : 0 ≤ a.s) (h1 : a.s / 4096 ≤ n) (h2 : n < a.e / 4096) (h3 : a.e ≤ 2097152) (h4 : 0 ≤ a.off) (h5 : a.off ≤ 1099511627776) : Says 33 #[a.v, .int .i64 n] (.tuple #[(a.at n).v, .bool true]) := by
  intro w
  have hs := tdiv_up h0
  have ht := tdiv_up (show 0 ≤ a.e by omega)
  obtain ⟨s, t, p, sh, bk, off⟩ := a
  unfold Ar.v Ar.at At.v
  simp only at *
  have e1 : 0 ≤ 4096 * (n - s / 4096) := by omega
  have e2 : 4096 * (n - s / 4096) ≤ 2097152 := by omega
  have e3 : 0 ≤ n - s / 4096 := by omega
  have e4 : n - s / 4096 ≤ 512 := by omega
  have bn : ∀ (A B C : Obj), Below w.heap.size w (((w.alloc A).alloc B).alloc C) := fun A B C => (below_new2 w A B).alloc (by simp; omega) _
  have BN := Lib.hid bn
  clear bn
  by_cases hb : 0 < bk
  · rw [if_pos hb]
    go_enter Try.func33, Try.ntmps33
    go_wp2
    refine bodyPost_ret (results_row_tmp rfl _ _ (w.heap.size + 1) 39 _ (0, 0) _ rfl (Whole.alloc (heap_alloc2_new _ _ _) _) Try.underlying39 rfl (by kernel_rfl)) rfl ?_
    exact ⟨rfl, BN.out _ _ _⟩
  · rw [if_neg hb]
    go_enter Try.func33, Try.ntmps33
    go_wp2
    refine bodyPost_ret (results_row_tmp rfl _ _ (w.heap.size + 1) 39 _ (0, 0) _ rfl (Whole.alloc (heap_alloc2_new _ _ _) _) Try.underlying39 rfl (by kernel_rfl)) rfl ?_
    exact ⟨rfl, BN.out _ _ _⟩

set_option maxHeartbeats 2000000 in
theorem refAttr_out (a : Ar) (n : Int) (h0 : 0 ≤ a.s) (h1 : n < a.s / 4096 ∨ a.e / 4096 ≤ n) (h2 : a.s ≤ a.e) (h3 : a.e ≤ 2097152) : Says 33 #[a.v, .int .i64 n] (.tuple #[At.nil.v, .bool false]) := by
  intro w
  have hs := tdiv_up h0
  have ht := tdiv_up (show 0 ≤ a.e by omega)
  obtain ⟨s, t, p, sh, bk, off⟩ := a
  unfold Ar.v At.v At.nil
  simp only at *
  rcases h1 with h1 | h1
  · go_enter Try.func33, Try.ntmps33
    go_wp2
    refine bodyPost_ret (results_row_tmp rfl _ _ (w.heap.size + 1) 39 _ (0, 0) _ rfl (heap_alloc2_new _ _ _) Try.underlying39 rfl (by kernel_rfl)) rfl ?_
    exact ⟨rfl, below_new2 _ _ _⟩
  · go_enter Try.func33, Try.ntmps33
    go_wp2
    refine bodyPost_ret (results_row_tmp rfl _ _ (w.heap.size + 1) 39 _ (0, 0) _ rfl (heap_alloc2_new _ _ _) Try.underlying39 rfl (by kernel_rfl)) rfl ?_
    exact ⟨rfl, below_new2 _ _ _⟩

set_option maxHeartbeats 2000000 in
theorem refAfter_any (a b : At) (h0 : 0 ≤ a.off) (h1 : a.off ≤ 1099511627776) {r : Bool} (hr : Tells r (a.p = b.p ∧ a.sh = b.sh ∧ a.bk = b.bk ∧ b.off = if 0 < a.bk then a.off + 4096 else a.off)) : Says 35 #[a.v, b.v] (.bool r) := by
  intro w
  have HR := Lib.hid hr
  clear hr
  obtain ⟨p, sh, bk, off⟩ := a
  obtain ⟨p', sh', bk', off'⟩ := b
  unfold At.v
  simp only at *
  have bn : ∀ (A B C : Obj), Below w.heap.size w (((w.alloc A).alloc B).alloc C) := fun A B C => (below_new2 w A B).alloc (by simp; omega) _
  have BN := Lib.hid bn
  clear bn
  by_cases hb : 0 < bk
  · rw [if_pos hb] at HR
    go_enter Try.func35, Try.ntmps35
    go_wp2
    all_goals
      go_ret
      refine ⟨says_bool (HR.out.is ⟨fun h => ?_, fun h => ?_⟩), BN.out _ _ _⟩
      · simp at h
        try simp_all
      · obtain ⟨rfl, rfl, rfl, rfl⟩ := h
        first | (simp; done) | contradiction
  · rw [if_neg hb] at HR
    go_enter Try.func35, Try.ntmps35
    go_wp2
    all_goals
      go_ret
      refine ⟨says_bool (HR.out.is ⟨fun h => ?_, fun h => ?_⟩), BN.out _ _ _⟩
      · simp at h
        try simp_all
      · obtain ⟨rfl, rfl, rfl, rfl⟩ := h
        first | (simp; done) | contradiction
end Go.Proofs.Ytmppodobgkhojaa
