/-
  Texts of our own, one behind the other (RmLaw): what the laws' proofs rest on; each says at its head what it holds. No conditions.
-/
import Derived.Test.YtbfphoajllmcpaaGreatPkQd
import Derived.Test.YtbfphoajllmcpaaGreatPkQe
import Derived.Test.YtbfphoajllmcpaaGreatPkB
/-
  Layer 12: what a program that does nothing does not answer.
-/
namespace Go.Proofs.YtbfphoajllmcpaaGreat
open Go.ChangeShapes Go.WideShapes Go.ChangeAt Go.RowKit Go.Shelf
set_option linter.unusedVariables false

def wakeR : Ar := ⟨65536, 69632, 1, false, 0, 0⟩
def wakeS : Ar := ⟨65536, 73728, 1, false, 0, 0⟩
def wakeRC : Cl := ⟨0, 65536, 4096, 8192, 0, 0, 0, 0, 0⟩
theorem wakeR_formed : Formed wakeR := by unfold wakeR; decide
theorem wakeS_formed : Formed wakeS := by unfold wakeS; decide
theorem wakeR_is : rmR [wakeR] wakeRC = ([wakeS], 0, 65536) := by
  have hX : MayL [wakeR] := ⟨right_one wakeR_formed, by simp⟩
  obtain ⟨b1, b2, b3, b4⟩ := bits_6 (f := 0) (by decide) (by decide)
  have hb1 : bitF 0 1 = false := by rw [b1]; decide
  have hb3 : bitF 0 32 = false := by rw [b3]; decide
  have e1 : rgA 65536 4096 = 65536 := by decide
  have e2 : rgB 65536 4096 = 69632 := by decide
  have ha : wakeR ∈ [wakeR] := by simp
  have hk : Rmk [wakeR] wakeRC wakeR := by
    refine ⟨hX, (fl49_zero (f := 0) ⟨by decide, by decide⟩).2 (by decide), (mv_zero (f := 0) (by decide) (by decide)).2 (by decide), by decide, by decide, fun k => ?_, ha, ?_, by decide, by decide⟩
    · have k : bitF 0 32 = true := k
      rw [hb3] at k; cases k
    · show fnA [wakeR] (rgA 65536 4096) = wakeR
      unfold fnA
      rw [e1, fn_is hX.1 ha (by decide) (by decide)]
      rfl
  have hok := hk.ok
  have ho := hk.os
  have hoo := hk.o
  have hoa : (rmK [wakeR] wakeRC).o = wakeR := by
    rw [hoo]
    exact Ar.ext' rfl (by decide) rfl rfl rfl rfl
  have hz : (rmK [wakeR] wakeRC).z = 8192 := by decide
  have hofE : (rmK [wakeR] wakeRC).ofE = 0 := by rw [hok.of, hoa, hz]; decide
  have hmo : (rmK [wakeR] wakeRC).more = 4096 := by unfold Ask.more; rw [hz, hoa]; decide
  have hfit : FitsAt (rmK [wakeR] wakeRC).l (rmK [wakeR] wakeRC).o.e (rmK [wakeR] wakeRC).more := by
    rw [hmo, hoa]
    show FitsAt [wakeR] 69632 4096
    refine (fits_pages hX.1 _ _).2 ⟨by decide, by decide, by decide, fun p h1 h2 => ?_⟩
    obtain rfl : p = 17 := by omega
    exact ⟨by decide, by decide, by decide⟩
  have hx : 65536 ≤ (65536 : Int) ∧ (65536 : Int) % 4096 = 0 ∧ (65536 : Int) + (rmK [wakeR] wakeRC).z ≤ 2097152 := by rw [hz]; decide
  have hmv : (rmK [wakeR] wakeRC).mv 65536 = [wakeS] := by
    refine right_unique (hok.mv hofE hx) (right_one wakeS_formed) fun p => ?_
    have hbs : (rmK [wakeR] wakeRC).b 65536 = wakeS := by unfold Ask.b; rw [hz, hoa]; rfl
    rw [hok.mv_tab hofE hx, hbs, hoa]
    show (if Cov wakeS p then _ else if _ then none else tab [wakeR] p) = tab [wakeS] p
    unfold tab
    by_cases hc : Cov wakeS p
    · rw [if_pos hc, if_pos hc]
    · rw [if_neg hc, if_neg hc]
      have : ¬ Cov wakeR p := fun k => hc (by unfold Cov wakeR at k; unfold Cov wakeS; simp only at k ⊢; omega)
      rw [if_neg this]
      unfold tab; split <;> rfl
  have hw : (rmK [wakeR] wakeRC).way = ([wakeS], 65536, 0) := by
    unfold Ask.way
    rw [if_neg (by show ¬ bitF 0 1 = true; rw [hb1]; decide), if_neg (by show ¬ bitF 0 32 = true; rw [hb3]; decide), if_neg (by rw [hmo]; decide)]
    unfold Ask.gr
    rw [if_pos hofE, if_pos hfit, hoa]
    show ((rmK [wakeR] wakeRC).mv 65536, (65536 : Int), (0 : Int)) = _
    rw [hmv]
  unfold rmR rmW
  rw [if_pos (rm_zero.2 ⟨wakeR, hk⟩), hw, if_pos rfl, if_pos (by simp)]
theorem wakeR_holds (w : World) : Holds (w.alloc (.cells #[.int .i64 65536, .int .i64 69632, .int .i64 1, .bool false, .int .i64 0, .int .i64 0] 37)) (.slice (some ⟨w.heap.size, 0, none⟩) 1 1) [wakeR] := by
  have h := Whole.new w 37 #[.int .i64 65536, .int .i64 69632, .int .i64 1, .bool false, .int .i64 0, .int .i64 0]
  refine ⟨_, 1, rfl, by simp, .inr ⟨w.heap.size, 0, rfl, by simp, fun j hj => ?_⟩⟩
  obtain rfl : j = 0 := by simp at hj; omega
  exact ⟨h.cell 0, h.cell 1, h.cell 2, h.cell 3, h.cell 4, h.cell 5⟩
set_option maxHeartbeats 1000000 in
theorem rm_awake : Says 4 #[] (.bool true) := by
  intro w
  have X := Lib.hid (remap_c (wakeR_holds w) (by simp) wakeRC)
  rw [wakeR_is] at X
  unfold Cl.v Cl.cells wakeRC at X
  simp only at X
  have B := Lib.hid (below_new w (.cells #[.int .i64 65536, .int .i64 69632, .int .i64 1, .bool false, .int .i64 0, .int .i64 0] 37))
  go_enter Tryz.func4, Tryz.ntmps4
  go_wp2_with fail
  refine X.out.mono ?_
  rintro e w1 ⟨v1, rfl, hm, hb⟩
  have B := Lib.hid (below_then B.out hb (Nat.le_refl _))
  have B := Lib.hid (B.out.alloc B.out.size (.cells #[.int .i64 0, .int .i64 65536, .int .i64 0, .bool false, .int .i64 0, .int .i64 0] 31))
  have BN := below_new w1 (.cells #[.int .i64 0, .int .i64 65536, .int .i64 0, .bool false, .int .i64 0, .int .i64 0] 31)
  obtain ⟨A, c, rfl, hc, hA⟩ := hm.holds
  rcases hA with hnl | ⟨b, off, rfl, hlt, hcs⟩
  · cases hnl
  have hat := ((hcs 0 (by simp)).below BN hlt).c1
  simp only [List.getElem_cons_zero, Nat.zero_mul, Nat.add_zero, wakeS] at hat
  clear hb X hcs hc hm BN
  simp only [List.length_cons, List.length_nil]
  unfold ansV ansC
  go_wp2_with fail
  go_ret
  exact ⟨rfl, B.out⟩
end Go.Proofs.YtbfphoajllmcpaaGreat
