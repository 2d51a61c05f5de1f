/-
  Layer 1: what a look tells.
-/
import Derived.Test.YtngihgdcoeokhaaCell
import Derived.Test.YtngihgdcoeokhaaOwnRow
import Derived.Maps.AppendAt
import Derived.Deep.LoopGhost
namespace Go.Proofs.Ytngihgdcoeokhaa
open Go.ChangeShapes Go.WideShapes Go.ChangeAt Go.RowKit
set_option linter.unusedVariables false

/-- The cells from i on, at most n. -/
def seen (cs : List Int) (i n : Int) : List Int := (cs.drop i.toNat).take n.toNat

theorem seen_length (cs : List Int) (i n : Int) : (seen cs i n).length = min n.toNat (cs.length - i.toNat) := by simp [seen]

/-- What a look leaves: new memory with just these numbers. -/
def Looked (w : World) (l : List Int) (e : Ending) (w' : World) : Prop :=
  ∃ v, e = .returned v ∧ w'.ownsRow w.heap.size 2 1 v l.length (l.map (Value.int .i64)) ∧ Below w.heap.size w w'

/-- The loop's relation: k numbers were seen. -/
def LookRel (w : World) (cs : List Int) (d : Nat) (n : Int) (sv at_ : Value) (wr : World) : Prop :=
  ∃ k : Nat, at_ = .int .i64 ((d : Int) + k) ∧ k ≤ min n.toNat (cs.length - d) ∧ wr.ownsRow w.heap.size 2 1 sv k (((cs.drop d).take k).map (Value.int .i64)) ∧ Below w.heap.size w wr

theorem take_more (cs : List Int) (d k : Nat) (h : d + k < cs.length) : (cs.drop d).take (k + 1) = (cs.drop d).take k ++ [nth cs (d + k)] := by
  rw [List.take_succ_eq_append_getElem (by simp; omega)]
  simp [nth, List.getD_eq_getElem?_getD, List.getElem?_eq_getElem h]

set_option maxHeartbeats 1000000 in
theorem look_any {w : World} {b g : Nat} {cs : List Int} {cnt : Int} (i n : Int) (h : MemAt w b g cs cnt) :
    Calls Try.prog 14 #[.pointer (some ⟨b, 0, none⟩), .int .i64 i, .int .i64 n] w (Looked w (seen cs i n)) := by
  have hb : b < w.heap.size := h.top.lt
  have hg : g < w.heap.size := h.row.lt
  obtain ⟨i0, hi0, hz0, hz1, hz2⟩ : ∃ i0, Try.prog.info? 2 = some i0 ∧ i0.zero = some (.int .i64 0) ∧ i0.size = 1 ∧ i0.bytes = 8 := by
    have := Try.info2'
    obtain ⟨i0, h1, h2⟩ := Option.map_eq_some_iff.1 this
    simp only [Prod.mk.injEq] at h2
    exact ⟨i0, h1, h2.1, h2.2.1, h2.2.2⟩
  obtain ⟨d, hd⟩ : ∃ d : Nat, d = i.toNat := ⟨_, rfl⟩
  have hmax : (i < 0 ∧ d = 0) ∨ (0 ≤ i ∧ (i = (d : Int))) := by omega
  have HS : Hid (seen cs i n = (cs.drop d).take n.toNat) := by rw [hd]; rfl
  clear hd
  have H := Lib.hid h
  have hn := h.few
  clear h
  have hmx : (i < 0 ∧ Hid (d = 0)) ∨ (0 ≤ i ∧ (i = (d : Int))) := hmax
  clear hmax
  rcases hmx with ⟨hlt, HD⟩ | ⟨hge, rfl⟩
  all_goals
    go_enter Try.func14, Try.ntmps14
    go_wp2
    go_loopw [7, 8] (fun sv at_ wr => LookRel w cs d n sv at_ wr) (fun _ at_ _ => cs.length + 1 - (intOf at_).toNat)
    case atStart => exact ⟨0, by first | go_num | (rw [HD.out]; rfl), by omega, by simpa using World.ownsRow_nil w _ _ _, Below.refl _ _⟩
    case round =>
      obtain ⟨k, rfl, hk, hown, hbw⟩ := hrel
      obtain ⟨A, c, rfl⟩ := own_slice hown
      have hc0 : wr.cell? ⟨b, 0, none⟩ = some (.slice (some ⟨g, 0, none⟩) cs.length cs.length) := (hbw.cell (p := ⟨b, 0, none⟩) hb).trans H.out.c0
      have hsz := hbw.size
      by_cases hkn : (k : Int) < n
      · by_cases hin : (d : Int) + k < cs.length
        · have hcg : wr.cell? ⟨g, d + k, none⟩ = some (.int .i64 (nth cs (d + k))) := (hbw.cell (p := ⟨g, d + k, none⟩) hg).trans (H.out.cg (d + k) (by omega))
          have HT := Lib.hid (take_more cs d k (by omega))
          generalize nth cs (d + k) = x at *
          have hka : k ≤ 65536 := by omega
          have HO := Lib.hid hown
          have HB := Lib.hid hbw
          clear hown hbw
          go_wp2_with (first
            | (go_at_call 25; refine (find_in b g _ _ _ hc0 (by omega) hin hn).mono ?_; rintro e w' ⟨rfl, rfl⟩)
            | (at_builtin; refine wpList_append_own _ rfl (.tmp 27) (.tmp 31) _ rfl w.heap.size 2 i0 _ 1 8 Try.underlying30 hi0 hz0 hz1 hz2 rfl (by omega) _ k _ rfl (HO.out.alloc _) ⟨wr.heap.size, 0, none⟩ 1 1 [.int .i64 x] rfl rfl (cell_one_new _ _ _) (by simp [Value.oneCell']) (by simp only [maxLen]; omega) (by omega) (by simp; omega) ?_; intro v' w' hown' hg' _hnil))
          go_roundw
          case rel =>
            refine ⟨k + 1, by go_num, by omega, by rw [HT.out, List.map_append]; exact hown', ((HB.out.alloc hsz _).grown hg' (by simp; omega) (fun j hj => ?_))⟩
            exact (HO.out.lt j hj).1
          case measure => simp [intOf]; omega
        · have HO := Lib.hid hown
          have HB := Lib.hid hbw
          clear hown hbw
          go_wp2_with (go_at_call 25; refine (find_out b g _ _ _ hc0 (.inr (by omega))).mono ?_; rintro e w' ⟨rfl, rfl⟩)
          go_ret
          refine ⟨_, rfl, ?_, HB.out⟩
          rw [HS.out, show ((cs.drop d).take n.toNat).length = k from by simp; omega, show (cs.drop d).take n.toNat = (cs.drop d).take k from by rw [List.take_eq_take_iff]; simp; omega]
          exact HO.out
      · have HO := Lib.hid hown
        have HB := Lib.hid hbw
        clear hown hbw
        go_wp2_with fail
        go_ret
        refine ⟨_, rfl, ?_, HB.out⟩
        rw [HS.out, show ((cs.drop d).take n.toNat).length = k from by simp; omega, show (cs.drop d).take n.toNat = (cs.drop d).take k from by rw [List.take_eq_take_iff]; simp; omega]
        exact HO.out
end Go.Proofs.Ytngihgdcoeokhaa
