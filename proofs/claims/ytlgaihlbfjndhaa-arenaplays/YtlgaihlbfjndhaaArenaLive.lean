/-
  Layer 2: the handles that are right, by slots.
-/
import Derived.Test.YtlgaihlbfjndhaaArenaLaw
import Derived.Test.YtlgaihlbfjndhaaOwnRow
import Derived.Deep.LoopGhost
namespace Go.Proofs.Ytlgaihlbfjndhaa
open Go.ChangeShapes Go.WideShapes Go.ChangeAt Go.RowKit
set_option linter.unusedVariables false

/-- New memory with just these numbers. -/
def Told (w : World) (l : List Int) (e : Ending) (w' : World) : Prop :=
  ∃ A c, e = .returned (.slice A l.length c) ∧ w'.ownsRow w.heap.size 2 1 (.slice A l.length c) l.length (l.map (Value.int .i64)) ∧ Below w.heap.size w w'

/-- The loop's relation: k slots were looked at. -/
def LiveRel (w : World) (l : Slots) (sv iv : Value) (wr : World) : Prop :=
  ∃ k : Nat, k ≤ l.length ∧ iv = .int .i64 k ∧ wr.ownsRow w.heap.size 2 1 sv (liveTo l k).length ((liveTo l k).map (Value.int .i64)) ∧ Below w.heap.size w wr

theorem Try.infoI : (Try.prog.info? 2).map (fun i => (i.zero, i.size, i.bytes)) = some (some (.int .i64 0), 1, 8) := by kernel_rfl

theorem live_grown {w wr w' : World} {o1 o2 : Obj} {row : Option Nat} (hb : Below w.heap.size w wr) (hg : ((wr.alloc o1).alloc o2).grownBy w' row) (hr : ∀ j, row = some j → w.heap.size ≤ j) : Below w.heap.size w w' :=
  ((hb.alloc hb.size _).alloc (by have := hb.size; simp; omega) _).grown hg (by have := hb.size; simp; omega) hr

set_option maxHeartbeats 1000000 in
theorem live_any {w : World} {b g : Nat} {fst : Int} {l : Slots} {st db : Bool} (G : Int) (H : ArAt w b g fst l st db) (hG : Gens l G) (hG0 : 0 ≤ G) (hG1 : G ≤ 1099511627776) :
    Calls Try.prog 23 #[.pointer (some ⟨b, 0, none⟩)] w (Told w (liveTo l l.length)) := by
  obtain ⟨i0, hi0, hz0, hz1, hz2⟩ : ∃ i0, Try.prog.info? 2 = some i0 ∧ i0.zero = some (.int .i64 0) ∧ i0.size = 1 ∧ i0.bytes = 8 := by
    obtain ⟨i0, h1, h2⟩ := Option.map_eq_some_iff.1 Try.infoI
    simp only [Prod.mk.injEq] at h2
    exact ⟨i0, h1, h2.1, h2.2.1, h2.2.2⟩
  have hc := H.c1
  have hfew := H.few
  have HH := Lib.hid H
  have HG := Lib.hid hG
  clear H hG
  go_enter Try.func23, Try.ntmps23
  go_wp2_with fail
  go_loopw [3, 11] (fun sv iv wr => LiveRel w l sv iv wr) (fun _ iv _ => l.length - (intOf iv).toNat)
  case atStart => exact ⟨0, by omega, by go_num, by simpa [liveTo_zero] using World.ownsRow_nil w _ _ _, Below.refl _ _⟩
  case round =>
    obtain ⟨k, hk, rfl, hown, hb⟩ := hrel
    obtain ⟨A, c, rfl⟩ := own_slice hown
    by_cases hlt : k < l.length
    · have h1 := HH.out.still hb
      have cg := h1.gen k hlt
      have cl := h1.live k hlt
      have hgm := gen_mem HG.out k hG0
      have g0 := hgm.1
      have g1 := hgm.2
      have hle := liveTo_le l k
      have hsz := hb.size
      have HB := Lib.hid hb
      have HO := Lib.hid hown
      have ch : Hid (hndAt l k = genAt l k * 65536 + ((k : Int) + 1)) := rfl
      clear h1 hgm hb hown
      generalize hx : genAt l k = x at *
      have HX := Lib.hid hx
      clear hx
      cases hv : liveAt l k with
      | false =>
        rw [hv] at cl
        have HL := Lib.hid (liveTo_no hv)
        clear hv
        go_wp2_with fail
        go_roundw
        case rel => exact ⟨k + 1, by omega, by go_num, by rw [HL.out]; exact HO.out.alloc _, HB.out.alloc hsz _⟩
        case measure => simp [intOf]; omega
      | true =>
        rw [hv] at cl
        have HL := Lib.hid (liveTo_yes hv)
        clear hv
        generalize hm : (liveTo l k).length = m at *
        have HM := Lib.hid hm
        clear hm
        go_wp2_with (first
          | (go_at_call 27; refine (handle_any _ _ _ g0 (by omega) (by omega) (by omega)).mono ?_; rintro e w' ⟨rfl, rfl⟩)
          | (at_builtin; refine wpList_append_own _ rfl (.tmp 18) (.tmp 24) _ rfl w.heap.size 2 i0 _ 1 8 Try.underlying28 hi0 hz0 hz1 hz2 rfl (by omega) _ m _ rfl ((HO.out.alloc _).alloc _) ⟨wr.heap.size + 1, 0, none⟩ 1 1 [.int .i64 (x * 65536 + ((k : Int) + 1))] rfl rfl (by have := cell_one_new (wr.alloc (.cells #[.int .i64 x, .bool true] 54)) (.int .i64 (x * 65536 + ((k : Int) + 1))) 2; simpa using this) (by simp [Value.oneCell']) (by simp only [maxLen]; omega) (by omega) (by simp; omega) ?_; intro v' w' hown' hg' _hnil))
        go_roundw
        case rel =>
          refine ⟨k + 1, by omega, by go_num, ?_, live_grown HB.out hg' (fun j hj => (HO.out.lt j hj).1)⟩
          rw [HL.out, List.map_append, List.length_append, HM.out, ch.out]; exact hown'
        case measure => simp [intOf]; omega
    · obtain rfl : k = l.length := by omega
      have HB := Lib.hid hb
      have HO := Lib.hid hown
      clear hb hown hlt
      generalize hm : (liveTo l l.length).length = m at *
      have HM := Lib.hid hm
      clear hm
      go_wp2_with fail
      go_ret
      refine ⟨A, c, ?_, ?_, HB.out⟩
      · rw [HM.out]; rfl
      · rw [HM.out]; exact HO.out
end Go.Proofs.Ytlgaihlbfjndhaa
