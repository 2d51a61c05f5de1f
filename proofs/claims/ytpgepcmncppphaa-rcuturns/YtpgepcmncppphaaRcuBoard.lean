/-
  Layer 4: what the cells tell.
-/
import Derived.Test.YtpgepcmncppphaaRcuLaw
namespace Go.Proofs.Ytpgepcmncppphaa
open Go.ChangeShapes Go.WideShapes Go.ChangeAt Go.RowKit
set_option linter.unusedVariables false

/-- The first i numbers of l; then 0. -/
def part (l : List Int) (i : Nat) : List Int := l.take i ++ List.replicate (17 - i) 0
theorem part_zero (l : List Int) : part l 0 = List.replicate 17 0 := rfl
theorem part_full (l : List Int) (h : l.length = 17) : part l 17 = l := by simp [part, List.take_of_length_le (Nat.le_of_eq h)]
theorem part_len (l : List Int) (i : Nat) (h : l.length = 17) (hi : i ≤ 17) : (part l i).length = 17 := by simp [part, h]; omega
theorem part_set (l : List Int) (i : Nat) (h : l.length = 17) (hi : i < 17) : (part l i).set i (nth l i) = part l (i + 1) := by
  unfold part
  have e1 : 17 - i = (17 - (i + 1)) + 1 := by omega
  have e2 : (l.take i).length = i := by simp; omega
  rw [List.set_append_right _ _ (by omega), e2, Nat.sub_self, e1, List.replicate_succ, List.set_cons_zero, List.take_succ_eq_append_getElem (by omega), List.append_assoc]
  simp only [nth, List.getD_eq_getElem?_getD, List.getElem?_eq_getElem (show i < l.length by omega), Option.getD_some, List.cons_append, List.nil_append]

theorem below_setRow {B g : Nat} {w w' : World} (h : Below B w w') (hg : B ≤ g) (cs : Array Value) : Below B w (w'.setRow g cs) :=
  ⟨h.os, h.tape, h.output, by simpa using h.size, fun k hk => by
    have : g ≠ k := by omega
    have e : (w'.setRow g cs).heap[k]? = w'.heap[k]? := by simp [World.setRow, Array.getElem?_modify, this]
    exact e.trans (h.block k hk)⟩

/-- What the loop has laid. -/
def BoardRel (w : World) (l : List Int) (bb rb : Nat) (gg c : Nat) (iv : Value) (wr : World) : Prop :=
  ∃ i : Nat, i ≤ 17 ∧ iv = .int .i64 i ∧ Whole wr bb 29 (nums (part l i)) ∧ Whole wr rb 29 (nums (List.replicate 17 0)) ∧ wr.ownsRow (w.heap.size + 2) 2 1 (.slice (some ⟨gg, 0, none⟩) 17 c) 17 (l.map (Value.int .i64)) ∧ Below w.heap.size w wr

set_option maxHeartbeats 2000000 in
theorem board_walk {w : World} {b g : Nat} {cs : List Int} {cnt : Int} (h : MemAt w b g cs cnt) (hl : cs.length = 30) :
    Calls Try.prog 13 #[.pointer (some ⟨b, 0, none⟩)] w fun e w' => e = .returned (.agg (nums (seen cs 3 17))) ∧ Below w.heap.size w w' := by
  have H := Lib.hid h
  have hlen : Hid ((seen cs 3 17).length = 17) := by rw [seen_length, hl]; exact Lib.hid (by decide)
  clear h hl
  go_enter Try.func13, Try.ntmps13
  go_upto_region 2 with (fail)
  have hb2 : Below w.heap.size w ((w.alloc (.cells #[Value.int .i64 0, Value.int .i64 0, Value.int .i64 0, Value.int .i64 0, Value.int .i64 0, Value.int .i64 0, Value.int .i64 0, Value.int .i64 0, Value.int .i64 0, Value.int .i64 0, Value.int .i64 0, Value.int .i64 0, Value.int .i64 0, Value.int .i64 0, Value.int .i64 0, Value.int .i64 0, Value.int .i64 0] 29)).alloc (.cells #[Value.int .i64 0, Value.int .i64 0, Value.int .i64 0, Value.int .i64 0, Value.int .i64 0, Value.int .i64 0, Value.int .i64 0, Value.int .i64 0, Value.int .i64 0, Value.int .i64 0, Value.int .i64 0, Value.int .i64 0, Value.int .i64 0, Value.int .i64 0, Value.int .i64 0, Value.int .i64 0, Value.int .i64 0] 29)) := ((Below.refl _ _).alloc (Nat.le_refl _) _).alloc (by simp only [World.size_alloc]; omega) _
  have W1 : Hid (Whole ((w.alloc (.cells #[Value.int .i64 0, Value.int .i64 0, Value.int .i64 0, Value.int .i64 0, Value.int .i64 0, Value.int .i64 0, Value.int .i64 0, Value.int .i64 0, Value.int .i64 0, Value.int .i64 0, Value.int .i64 0, Value.int .i64 0, Value.int .i64 0, Value.int .i64 0, Value.int .i64 0, Value.int .i64 0, Value.int .i64 0] 29)).alloc (.cells #[Value.int .i64 0, Value.int .i64 0, Value.int .i64 0, Value.int .i64 0, Value.int .i64 0, Value.int .i64 0, Value.int .i64 0, Value.int .i64 0, Value.int .i64 0, Value.int .i64 0, Value.int .i64 0, Value.int .i64 0, Value.int .i64 0, Value.int .i64 0, Value.int .i64 0, Value.int .i64 0, Value.int .i64 0] 29)) w.heap.size 29 (nums (List.replicate 17 0))) := (Whole.new w 29 #[Value.int .i64 0, Value.int .i64 0, Value.int .i64 0, Value.int .i64 0, Value.int .i64 0, Value.int .i64 0, Value.int .i64 0, Value.int .i64 0, Value.int .i64 0, Value.int .i64 0, Value.int .i64 0, Value.int .i64 0, Value.int .i64 0, Value.int .i64 0, Value.int .i64 0, Value.int .i64 0, Value.int .i64 0]).alloc _
  have W2 : Hid (Whole ((w.alloc (.cells #[Value.int .i64 0, Value.int .i64 0, Value.int .i64 0, Value.int .i64 0, Value.int .i64 0, Value.int .i64 0, Value.int .i64 0, Value.int .i64 0, Value.int .i64 0, Value.int .i64 0, Value.int .i64 0, Value.int .i64 0, Value.int .i64 0, Value.int .i64 0, Value.int .i64 0, Value.int .i64 0, Value.int .i64 0] 29)).alloc (.cells #[Value.int .i64 0, Value.int .i64 0, Value.int .i64 0, Value.int .i64 0, Value.int .i64 0, Value.int .i64 0, Value.int .i64 0, Value.int .i64 0, Value.int .i64 0, Value.int .i64 0, Value.int .i64 0, Value.int .i64 0, Value.int .i64 0, Value.int .i64 0, Value.int .i64 0, Value.int .i64 0, Value.int .i64 0] 29)) (w.heap.size + 1) 29 (nums (List.replicate 17 0))) := by
    have := Whole.new (w.alloc (.cells #[Value.int .i64 0, Value.int .i64 0, Value.int .i64 0, Value.int .i64 0, Value.int .i64 0, Value.int .i64 0, Value.int .i64 0, Value.int .i64 0, Value.int .i64 0, Value.int .i64 0, Value.int .i64 0, Value.int .i64 0, Value.int .i64 0, Value.int .i64 0, Value.int .i64 0, Value.int .i64 0, Value.int .i64 0] 29)) 29 #[Value.int .i64 0, Value.int .i64 0, Value.int .i64 0, Value.int .i64 0, Value.int .i64 0, Value.int .i64 0, Value.int .i64 0, Value.int .i64 0, Value.int .i64 0, Value.int .i64 0, Value.int .i64 0, Value.int .i64 0, Value.int .i64 0, Value.int .i64 0, Value.int .i64 0, Value.int .i64 0, Value.int .i64 0]
    rw [World.size_alloc] at this
    exact this
  have H2 := Lib.hid (H.out.only (Only.of_below hb2 (fun _ => False)) id id)
  have HB2 := Lib.hid hb2
  have hsz : ((w.alloc (.cells #[Value.int .i64 0, Value.int .i64 0, Value.int .i64 0, Value.int .i64 0, Value.int .i64 0, Value.int .i64 0, Value.int .i64 0, Value.int .i64 0, Value.int .i64 0, Value.int .i64 0, Value.int .i64 0, Value.int .i64 0, Value.int .i64 0, Value.int .i64 0, Value.int .i64 0, Value.int .i64 0, Value.int .i64 0] 29)).alloc (.cells #[Value.int .i64 0, Value.int .i64 0, Value.int .i64 0, Value.int .i64 0, Value.int .i64 0, Value.int .i64 0, Value.int .i64 0, Value.int .i64 0, Value.int .i64 0, Value.int .i64 0, Value.int .i64 0, Value.int .i64 0, Value.int .i64 0, Value.int .i64 0, Value.int .i64 0, Value.int .i64 0, Value.int .i64 0] 29)).heap.size = w.heap.size + 2 := by simp
  clear hb2 H
  generalize (w.alloc (.cells #[Value.int .i64 0, Value.int .i64 0, Value.int .i64 0, Value.int .i64 0, Value.int .i64 0, Value.int .i64 0, Value.int .i64 0, Value.int .i64 0, Value.int .i64 0, Value.int .i64 0, Value.int .i64 0, Value.int .i64 0, Value.int .i64 0, Value.int .i64 0, Value.int .i64 0, Value.int .i64 0, Value.int .i64 0] 29)).alloc (.cells #[Value.int .i64 0, Value.int .i64 0, Value.int .i64 0, Value.int .i64 0, Value.int .i64 0, Value.int .i64 0, Value.int .i64 0, Value.int .i64 0, Value.int .i64 0, Value.int .i64 0, Value.int .i64 0, Value.int .i64 0, Value.int .i64 0, Value.int .i64 0, Value.int .i64 0, Value.int .i64 0, Value.int .i64 0] 29) = w2 at *
  go_wp2_with fail
  refine (look_any 3 17 H2.out).mono ?_
  rintro e w3 ⟨v, rfl, hown, hb3⟩
  obtain ⟨l, hle⟩ : ∃ l, seen cs 3 17 = l := ⟨_, rfl⟩
  rw [hle] at hown hlen
  have HL := Lib.hid hle
  clear hle
  rw [hlen.out] at hown
  obtain ⟨A, c, rfl⟩ := own_slice hown
  obtain ⟨gg, rfl, hg1, hg2⟩ := own_form hown (by omega)
  rw [hsz] at hown
  have R0 : Hid (BoardRel w l (w.heap.size + 1) w.heap.size gg c (.int .i64 0) w3) := by
    refine ⟨0, by omega, rfl, ?_, ?_, hown, HB2.out.trans (hb3.mono (by omega))⟩
    · rw [part_zero]; exact W2.out.below hb3 (by omega)
    · exact W1.out.below hb3 (by omega)
  clear hown hb3 W1 W2 H2 HB2
  go_wp2_with fail
  go_loopw [5] (fun iv wr => BoardRel w l (w.heap.size + 1) w.heap.size gg c iv wr) (fun iv _ => 17 - (intOf iv).toNat)
  case atStart => exact R0.out
  case round =>
    obtain ⟨i, hi, rfl, hbb, hrb, hown, hbel⟩ := hrel
    by_cases hlt : i < 17
    · have hown' : wr.ownsRow (w.heap.size + 2) 2 1 (.slice (some ⟨gg, 0, none⟩) l.length c) l.length (l.map (Value.int .i64)) := by rw [hlen.out]; exact hown
      have cx : wr.cell? ⟨gg, i, none⟩ = some (.int .i64 (nth l i)) := own_int hown' i (by rw [hlen.out]; exact hlt)
      have cb : wr.cell? ⟨w.heap.size + 1, i, none⟩ = some (.int .i64 (nth (part l i) i)) := by rw [hbb.cell]; exact nums_at _ _ (by rw [part_len l i hlen.out (by omega)]; omega)
      have fb : wr.frozen? ⟨w.heap.size + 1, i, none⟩ = false := hbb.frozen i
      have NX : Hid (BoardRel w l (w.heap.size + 1) w.heap.size gg c (.int .i64 ((i : Int) + 1)) (wr.setCell ⟨w.heap.size + 1, i, none⟩ (.int .i64 (nth l i)))) := by
        refine ⟨i + 1, by omega, by simp, ?_, hrb.far (by simp) _, own_far hown ?_ _, hbel.setCell (by simp) _⟩
        · have := hbb.put i (.int .i64 (nth l i))
          rw [nums_set, part_set l i hlen.out hlt] at this
          exact this
        · exact own_apart hown hbb (by decide)
      clear hown hown' hbb hrb hbel
      generalize nth l i = x at *
      by_cases h0 : i = 0
      · subst h0
        go_wp2_with fail
        go_roundw
        case rel => exact NX.out
        case measure => simp [intOf]
      · have ei : 1 + (i - 1) = i := by omega
        have cb' : wr.cell? ⟨w.heap.size + 1, 1 + (i - 1), none⟩ = some (.int .i64 (nth (part l i) i)) := by rw [ei]; exact cb
        have fb' : wr.frozen? ⟨w.heap.size + 1, 1 + (i - 1), none⟩ = false := by rw [ei]; exact fb
        have NX' : Hid (BoardRel w l (w.heap.size + 1) w.heap.size gg c (.int .i64 ((i : Int) + 1)) (wr.setCell ⟨w.heap.size + 1, 1 + (i - 1), none⟩ (.int .i64 x))) := by rw [ei]; exact NX
        clear NX cb fb ei
        go_wp2_with fail
        go_roundw
        case rel => exact NX'.out
        case measure => simp [intOf]; omega
    · have hi17 : i = 17 := by omega
      subst hi17
      rw [part_full l hlen.out] at hbb
      have HBB := Lib.hid hbb
      have HRB := Lib.hid hrb
      have HBE := Lib.hid hbel
      clear hbb hrb hown hbel
      go_upto_region 9 with (fail)
      have hsize : (Try.prog.info? 29).map (·.size) = some (nums l).size := by rw [nums_size, hlen.out]; kernel_rfl
      apply wp_region_lit
      refine wpList_load_row rfl 29 _ rfl (w.heap.size + 1) rfl 29 (nums l) (0, 0) _ HBB.out Try.underlying29 rfl hsize ?_
      refine wpList_store_row rfl 29 _ _ rfl w.heap.size (nums l) rfl rfl 29 _ HRB.out hsize (by rw [nums_size, nums_size, hlen.out]; simp) (by simp [nums, Value.oneCell']) ?_
      apply wpList_nil
      go_wp2_with fail
      refine bodyPost_ret (results_cell_row rfl _ _ w.heap.size 29 (nums l) (0, 0) _ rfl (setRow_heap _ _ _ _ _ _ HRB.out) Try.underlying29 rfl hsize) rfl ?_
      refine ⟨by rw [HL.out], ?_⟩
      exact below_setRow HBE.out (Nat.le_refl _) (nums l)
end Go.Proofs.Ytpgepcmncppphaa
