/-
  Layer 3: programs of a size that is looked at.
-/
import Derived.Test.YtodclnfhhaiblaaTrailOne
namespace Go.Proofs.Ytodclnfhhaiblaa
open Go.ChangeShapes Go.WideShapes Go.ChangeAt Go.RowKit
set_option linter.unusedVariables false

/-- Rows of these lengths. -/
def Rows3 (w : World) (A : Option Addr) (lb lo : Nat) (ns : List Nat) : Prop := (0 < ns.length → A = some ⟨lb, lo, none⟩) ∧ ∀ k n, ns[k]? = some n → ∃ B c, w.cell? ⟨lb, lo + k, none⟩ = some (.slice B n c)
/-- Are they few? -/
def few3 (ns : List Nat) (n : Nat) : Bool := (ns.take 10).all (fun x => decide (x ≤ 25)) && decide (ns.length ≤ n)

def FewRel (ns : List Nat) (w : World) (iv : Value) (wr : World) : Prop := ∃ k : Nat, iv = .int .i64 k ∧ k ≤ ns.length ∧ k ≤ 10 ∧ (ns.take k).all (fun x => decide (x ≤ 25)) = true ∧ w = wr

set_option maxHeartbeats 1000000 in
theorem few_any (A : Option Addr) (lb lo c : Nat) (ns : List Nat) (n : Nat) (w : World) (hn : n ≤ 100) (h : Rows3 w A lb lo ns) :
    Calls Try.prog 8 #[.slice A ns.length c, .int .i64 n] w fun e w' => e = .returned (.bool (few3 ns n)) ∧ w = w' := by
  have H := Lib.hid h
  clear h
  go_enter Try.func8, Try.ntmps8
  go_wp2_with fail
  go_loopw [5] (fun iv wr => FewRel ns w iv wr) (fun iv _ => 10 - (intOf iv).toNat)
  case atStart => exact ⟨0, by go_num, by omega, by omega, by simp, rfl⟩
  case round =>
    obtain ⟨k, rfl, hk, hk10, hall, rfl⟩ := hrel
    have HA := Lib.hid hall
    clear hall
    by_cases h1 : k < ns.length
    · by_cases h2 : k < 10
      · obtain ⟨B, c', hc⟩ := H.out.2 k _ (List.getElem?_eq_getElem h1)
        obtain rfl := H.out.1 (by omega)
        have HT : Hid ((ns.take (k + 1)).all (fun x => decide (x ≤ 25)) = ((ns.take k).all (fun x => decide (x ≤ 25)) && decide (ns[k] ≤ 25))) := by
          rw [Hid, List.take_succ_eq_append_getElem h1, List.all_append]
          simp
        have HS : Hid (∀ j, k < j → (ns.take j).all (fun x => decide (x ≤ 25)) = true → ns[k] ≤ 25) := by
          intro j hj ha
          have := List.all_eq_true.1 ha ns[k] (by
            rw [List.mem_iff_getElem?]
            exact ⟨k, by rw [List.getElem?_take, if_pos hj, List.getElem?_eq_getElem h1]⟩)
          simpa using this
        generalize ns[k] = x at *
        by_cases hx : 25 < x
        · have hx' : decide (25 < (x : Int)) = true := by simp; omega
          go_wp2_with fail
          go_ret
          refine ⟨?_, rfl⟩
          have : few3 ns n = false := by
            rw [few3, Bool.and_eq_false_iff]
            left
            rw [Bool.eq_false_iff]
            intro ha
            have := HS.out 10 h2 ha
            omega
          rw [this]
          rfl
        · go_wp2_with fail
          go_roundw
          case rel =>
            refine ⟨k + 1, by go_num, by omega, by omega, ?_, rfl⟩
            rw [HT.out, HA.out]
            simp; omega
          case measure => simp [intOf]; omega
      · have E : Hid (few3 ns n = decide (ns.length ≤ n)) := by
          have : k = 10 := by omega
          subst this
          rw [Hid, few3, HA.out, Bool.true_and]
        have hd : (decide ((ns.length : Int) ≤ (n : Int))) = decide (ns.length ≤ n) := by simp
        go_wp2_with fail
        go_ret
        rw [E.out]
        exact ⟨by simp, rfl⟩
    · have E : Hid (few3 ns n = decide (ns.length ≤ n)) := by
        have hkn : k = ns.length := by omega
        subst hkn
        have e1 : ns.take 10 = ns := List.take_of_length_le hk10
        have e2 : ns.take ns.length = ns := List.take_of_length_le (Nat.le_refl _)
        have := HA.out
        rw [e2] at this
        rw [Hid, few3, e1, this, Bool.true_and]
      go_wp2_with fail
      go_ret
      rw [E.out]
      exact ⟨by simp, rfl⟩
end Go.Proofs.Ytodclnfhhaiblaa
