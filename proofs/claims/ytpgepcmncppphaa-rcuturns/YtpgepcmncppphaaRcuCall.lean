/-
  Layer 4: a call as a task, and a step of it.
-/
import Derived.Test.YtpgepcmncppphaaRcuDo
import Derived.Test.YtpgepcmncppphaaTaskStep
namespace Go.Proofs.Ytpgepcmncppphaa
open Go.ChangeShapes Go.WideShapes Go.ChangeAt Go.RowKit
set_option linter.unusedVariables false

/-- The call's program: the board is at 3. -/
def callP (kd r : Int) : Task Bool := if kd % 3 = 0 then enterP 3 r else if kd % 3 = 1 then leaveP 3 r else advP 3

theorem enterP_false (a r : Int) (T : Tr) (m : Mm) : (play (enterP a r) T m).a = false := by
  unfold enterP; split <;> rfl
theorem leaveP_false (a r : Int) (T : Tr) (m : Mm) : (play (leaveP a r) T m).a = false := by
  unfold leaveP; split <;> rfl

section
variable {w w' w'' : World} {b g tb : Nat} {tv mv tv' mv' : Value} {T T' : Tr} {m m' : Mm} {sp : Option Addr}

theorem rem3 (kd : Int) (h0 : 0 ≤ kd) : kd.tmod 3 = kd % 3 := Int.tmod_eq_emod_of_nonneg h0

set_option maxHeartbeats 1000000 in
theorem call_runs (kd r : Int) (hk0 : 0 ≤ kd) (hk1 : kd ≤ 255) (h : St w b g tb tv mv T m) (hf : Fine T) (hsp : FlagIn w b g tb tv mv sp) (hs2 : kd % 3 = 2 → sp ≠ none) (hr : T.told.length + 18 ≤ 1000) (hu : m.cnt + 18 ≤ 4611686018427387904) :
    Calls Try.prog 11 #[.agg #[.int .u8 kd, .int .i64 r, .pointer sp], .pointer (some ⟨tb, 0, none⟩)] w (Ran w b g tb tv mv sp (play (callP kd r) T m)) := by
  have hb : Below w.heap.size w (w.alloc (.cells #[.int .u8 kd, .int .i64 r, .pointer sp] 42)) := (Below.refl _ _).alloc (Nat.le_refl _) _
  have h' := h.still hb
  have hmb := Moved.still hb b g tb tv mv
  have bx := Whole.new w 42 #[.int .u8 kd, .int .i64 r, .pointer sp]
  have c0 : (w.alloc (.cells #[.int .u8 kd, .int .i64 r, .pointer sp] 42)).cell? ⟨w.heap.size, 0, none⟩ = some (.int .u8 kd) := bx.cell 0
  have c1 : (w.alloc (.cells #[.int .u8 kd, .int .i64 r, .pointer sp] 42)).cell? ⟨w.heap.size, 1, none⟩ = some (.int .i64 r) := bx.cell 1
  have hcase : kd % 3 = 0 ∨ kd % 3 = 1 ∨ kd % 3 = 2 := by omega
  have hm := rem3 kd hk0
  rcases hcase with hc | hc | hc
  · have X := Lib.hid (enters 3 r (by omega) (by omega) h' hf (by omega) (by omega))
    have HP : Hid (callP kd r = enterP 3 r) := by unfold callP; rw [if_pos hc]; exact Lib.hid rfl
    have HM := Lib.hid hmb
    rw [hc] at hm
    clear h h' hf hsp hs2 hr hu hb hmb bx
    go_enter Try.func11, Try.ntmps11
    go_wp2_with fail
    refine X.out.mono ?_
    rintro e w2 ⟨rfl, tv2, mv2, s2, m2⟩
    have S := Lib.hid s2
    have M := Lib.hid (HM.out.trans m2)
    clear s2 m2
    go_wp2_with fail
    go_end0
    rw [HP.out]
    exact ⟨rfl, tv2, mv2, w2, S.out, M.out, by rw [enterP_false]; rfl⟩
  · have X := Lib.hid (leaves 3 r (by omega) (by omega) h' hf (by omega) (by omega))
    have HP : Hid (callP kd r = leaveP 3 r) := by unfold callP; rw [if_neg (by omega), if_pos hc]; exact Lib.hid rfl
    have HM := Lib.hid hmb
    rw [hc] at hm
    clear h h' hf hsp hs2 hr hu hb hmb bx
    go_enter Try.func11, Try.ntmps11
    go_wp2_with fail
    refine X.out.mono ?_
    rintro e w2 ⟨rfl, tv2, mv2, s2, m2⟩
    have S := Lib.hid s2
    have M := Lib.hid (HM.out.trans m2)
    clear s2 m2
    go_wp2_with fail
    go_end0
    rw [HP.out]
    exact ⟨rfl, tv2, mv2, w2, S.out, M.out, by rw [leaveP_false]; rfl⟩
  · have X := Lib.hid (advances 3 (by omega) (by omega) h' hf (by omega) (by omega))
    have HP : Hid (callP kd r = advP 3) := by unfold callP; rw [if_neg (by omega), if_neg (by omega)]; exact Lib.hid rfl
    have HM := Lib.hid hmb
    have BX := Lib.hid bx
    have H' := Lib.hid h'
    have HS := Lib.hid (hsp.moved hmb)
    obtain ⟨p, rfl⟩ := Option.ne_none_iff_exists'.1 (hs2 hc)
    rw [hc] at hm
    clear h h' hf hsp hs2 hr hu hb hmb bx
    go_enter Try.func11, Try.ntmps11
    go_wp2_with fail
    refine X.out.mono ?_
    rintro e w2 ⟨rfl, tv2, mv2, s2, m2⟩
    have c2 : w2.cell? ⟨w.heap.size, 2, none⟩ = some (.pointer (some p)) := (BX.out.only m2.only (not_all H'.out BX.out (by decide) (by decide) (by decide) (by decide))).cell 2
    obtain ⟨⟨u, hu⟩, hz, hn⟩ := HS.out.moved m2 p rfl
    have S := Lib.hid s2
    have M := Lib.hid (HM.out.trans m2)
    clear s2 m2 c0 c1 X H' BX HM
    cases ha : (play (advP 3) T m).a with
    | false =>
      go_wp2_with fail
      go_end0
      rw [HP.out]
      exact ⟨rfl, tv2, mv2, w2, S.out, M.out, by rw [ha]; rfl⟩
    | true =>
      go_wp2_with fail
      go_end0
      rw [HP.out]
      exact ⟨rfl, tv2, mv2, w2, S.out, M.out, by rw [ha]; rfl⟩

theorem call_step (time kd r : Int) (hk0 : 0 ≤ kd) (hk1 : kd ≤ 255) (h : St w b g tb tv mv T m) (ho : T.over = false) (hp : T.ph = 0) (hsp : FlagIn w b g tb tv mv sp) (hs2 : kd % 3 = 2 → sp ≠ none) (hr : T.told.length + 18 ≤ 1000) (hu : m.cnt + 18 ≤ 4611686018427387904) :
    Calls Try.prog 10 #[.pointer (some ⟨tb, 0, none⟩), .int .i64 time, .func (.func 11) #[.agg #[.int .u8 kd, .int .i64 r, .pointer sp]] #[]] w fun e w' =>
      e = .returned (.bool (turn (callP kd r) T.told m).over) ∧ ∃ T' tv' mv', Stepped w b g tb tv mv sp T (turn (callP kd r) T.told m) T' tv' mv' w' :=
  task_step (T' := T) time _ #[.agg #[.int .u8 kd, .int .i64 r, .pointer sp]] (callP kd r) (fun _ => rfl) h ho hp hsp
    (fun w1 T1 s1 f1 g1 hl => call_runs kd r hk0 hk1 s1 f1 g1 hs2 (by omega) hu) rfl
end
end Go.Proofs.Ytpgepcmncppphaa
