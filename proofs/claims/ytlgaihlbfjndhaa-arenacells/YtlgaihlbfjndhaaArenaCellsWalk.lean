/-
  Layer 2: the walk of the statement on cells.
-/
import Derived.Test.YtlgaihlbfjndhaaArenaLaw
import Derived.Test.YtlgaihlbfjndhaaArenaRefNew
namespace Go.Proofs.Ytlgaihlbfjndhaa
open Go.ChangeShapes Go.WideShapes Go.ChangeAt Go.RowKit
set_option linter.unusedVariables false

set_option maxHeartbeats 2000000 in
theorem cells_any (first slots h word : Int) (w : World) (hh : h ≤ 9223372036854775807) :
    Calls Try.prog 4 #[.agg #[.int .i64 first, .int .i64 slots], .agg #[.int .i64 h, .int .i64 word]] w fun e w' => e = .returned (.bool true) ∧ Below w.heap.size w w' := by
  go_enter Try.func4, Try.ntmps4
  go_wp2_with fail
  go_quiet (fail)
  go_wp2_with fail
  refine (arAwake _).mono ?_
  rintro e w1 ⟨rfl, hb1⟩
  have hbw : Below w.heap.size w w1 := by
    refine Below.trans ?_ (hb1.mono (by simp; omega))
    exact below_drewN (((Below.refl _ _).alloc (Nat.le_refl _) _).alloc (by simp) _) _
  have HB1 := Lib.hid hbw
  clear hbw hb1
  go_wp2_with fail
  refine (arNew_ex _ _ _).mono ?_
  rintro e w2 ⟨xb, xg, rfl, har, hx1, hx2, hb2⟩
  have HA := Lib.hid har
  have HB2 := Lib.hid (HB1.out.trans (hb2.mono HB1.out.size))
  clear har hx1 hx2 hb2
  go_wp2_with fail
  refine (rfNew_any _ _ _).mono ?_
  rintro e w3 ⟨rfl, ⟨A, c, B, d, hr⟩, hb3⟩
  have ha3 := HA.out.still hb3
  have HB3 := Lib.hid (HB2.out.trans (hb3.mono HB2.out.size))
  generalize w2.heap.size = rb at *
  have hc1 := ha3.c1
  have hd1 := hr.c1
  have hce := fun (n : Nat) => cell_any (w := w3.drewN n) h word (ha3.drewN n) hh
  have hde := fun (n : Nat) => rfCell_any (w := w3.drewN n) h word (hr.drewN n)
  rw [fresh_length] at hc1 hd1 hce hde
  have HCE := Lib.hid hce
  have HDE := Lib.hid hde
  clear hce hde ha3 hr hb3 HA
  generalize cellOf (firstOf first) (slotsOf slots) h word = ce at *
  generalize slotsOf slots = n at *
  have e1 : ((n : Int) == (n : Int)) = true := by simp
  have e2 : (ce == ce) = true := by simp
  have e3 : (slotOf h == slotOf h) = true := by simp
  go_wp2_with fail
  go_quiet ((first | (go_at_call 18; exact quietly (slots_any _ _ _ _ hc1)) | (go_at_call 19; exact quietly (HCE.out _)) | (go_at_call 20; exact quietly (HDE.out _)) | (go_at_call 21; exact quietly (slot_any _ _ hh)) | (go_at_call 22; exact quietly (rfSlot_any _ _))))
  go_wp2_with fail
  go_ret
  exact ⟨rfl, below_drewN HB3.out _⟩
end Go.Proofs.Ytlgaihlbfjndhaa
