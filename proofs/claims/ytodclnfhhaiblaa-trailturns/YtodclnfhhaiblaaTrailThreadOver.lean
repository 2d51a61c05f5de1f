/-
  Layer 3: the reference: whether a program is over, and the access that it does next.
-/
import Derived.Test.YtodclnfhhaiblaaTrailThread
namespace Go.Proofs.Ytodclnfhhaiblaa
open Go.ChangeShapes Go.WideShapes Go.ChangeAt Go.RowKit
set_option linter.unusedVariables false

theorem drop_at {l : List Pop} {i : Nat} {o : Pop} (h : l[i]? = some o) : l.drop i = o :: l.drop (i + 1) := by
  have hlt := (List.getElem?_eq_some_iff.1 h).1
  rw [List.drop_eq_getElem_cons hlt, (List.getElem?_eq_some_iff.1 h).2]
theorem skip_mark {l : List Pop} {i : Nat} {o : Pop} (h : l[i]? = some o) (hm : isM o = true) : skip (l.drop i) = skip (l.drop (i + 1)) := by
  rw [drop_at h]; simp [skip, hm]
theorem skip_acc {l : List Pop} {i : Nat} {o : Pop} (h : l[i]? = some o) (hm : isM o = false) : skip (l.drop i) = o :: l.drop (i + 1) := by
  rw [drop_at h]; simp [skip, hm]
theorem skip_end {l : List Pop} {i : Nat} (h : l.length ≤ i) : skip (l.drop i) = [] := by
  rw [List.drop_eq_nil_of_le h]; rfl

section
variable {w w' w'' : World} {hb o : Nat} {cs : Array Value} {mv mv' mv'' : Value} {h h' : Th} {rb base : Nat} {A : Option Addr} {c : Nat} {m m' : Mm}

def OverRel (w : World) (l : List Pop) (a : Nat) (iv : Value) (wr : World) : Prop := ∃ i : Nat, i ≤ l.length ∧ iv = .int .i64 i ∧ skip (l.drop i) = skip (l.drop a) ∧ w = wr

set_option maxHeartbeats 1000000 in
theorem th_over (L : Option Addr) (lc lb lo : Nat) (l : List Pop) (hc : w.cell? ⟨hb, o, none⟩ = some (.int .i64 h.a)) (hl : OpsIn w L lb lo l) (ha : h.a ≤ l.length) (hn : l.length ≤ 900) :
    Calls Try.prog 16 #[.pointer (some ⟨hb, o, none⟩), .slice L l.length lc] w fun e w' => e = .returned (.bool (decide (skip (l.drop h.a) = []))) ∧ w = w' := by
  have HL := Lib.hid hl
  clear hl
  generalize hnn : l.length = n at *
  have HN := Lib.hid hnn
  clear hnn
  go_enter Try.func16, Try.ntmps16
  go_wp2_with fail
  go_loopw [5] (fun iv wr => OverRel w l h.a iv wr) (fun iv _ => n - (intOf iv).toNat)
  case atStart => exact ⟨h.a, by rw [HN.out]; exact ha, by go_num, rfl, rfl⟩
  case round =>
    obtain ⟨i, hi, rfl, hsk, rfl⟩ := hrel
    rw [HN.out] at hi
    have HS := Lib.hid hsk
    clear hsk
    by_cases hlt : i < n
    · obtain ⟨op, ho⟩ : ∃ op, l[i]? = some op := ⟨l[i]'(by rw [HN.out]; exact hlt), List.getElem?_eq_getElem _⟩
      have hop := HL.out.ops i op ho
      have q0 := hop.1
      have k0 := hop.2.2.2.2.2.1
      have k1 := hop.2.2.2.2.2.2
      obtain rfl := HL.out.at_ (by rw [HN.out]; omega)
      have HO := Lib.hid ho
      clear hop ho
      by_cases h5 : op.kd % 6 = 5
      · have h5' : (op.kd % 6 != 5) = false := by simp [h5]
        have HM := Lib.hid (skip_mark HO.out (by simp [isM, h5]))
        clear h5
        go_wp2_with fail
        go_roundw
        case rel => exact ⟨i + 1, by rw [HN.out]; omega, by go_num, by rw [← HM.out]; exact HS.out, rfl⟩
        case measure => simp [intOf]; omega
      · have h5' : (op.kd % 6 != 5) = true := bne_iff_ne.2 h5
        have HM : Hid (decide (skip (l.drop h.a) = []) = false) := by
          rw [Hid, ← HS.out, skip_acc HO.out (by simp [isM, h5])]; simp
        clear h5
        go_wp2_with fail
        go_ret
        rw [HM.out]
        exact ⟨rfl, rfl⟩
    · have HM : Hid (decide (skip (l.drop h.a) = []) = true) := by
        rw [Hid, ← HS.out, skip_end (by rw [HN.out]; omega)]; simp
      go_wp2_with fail
      go_ret
      rw [HM.out]
      exact ⟨rfl, rfl⟩

set_option maxHeartbeats 1000000 in
theorem th_access (p : Pop) (hc : w.cell? ⟨hb, o + 2, none⟩ = some (.int .i64 h.s)) :
    Calls Try.prog 34 #[.pointer (some ⟨hb, o, none⟩), .agg #[.int .u8 p.kd, .int .i64 p.i, .int .i64 p.v, .int .i64 p.old, .bool p.use]] w fun e w' =>
      e = .returned (.agg #[.int .u8 p.kd, .int .i64 p.i, .int .i64 (popV p h.s), .int .i64 p.old]) ∧ Below w.heap.size w w' := by
  have hlt := World.block_lt_of_cell? w _ hc
  simp only at hlt
  have c2 : ∀ o1 o2, ((w.alloc o1).alloc o2).cell? ⟨hb, o + 2, none⟩ = some (.int .i64 h.s) := fun o1 o2 => box_cell _ _ _ _ (box_cell _ _ _ _ hc)
  cases hu : p.use with
  | false =>
    have E : Hid (popV p h.s = p.v) := by simp [Hid, popV, hu]
    go_enter Try.func34, Try.ntmps34
    go_wp2_with fail
    refine bodyPost_ret (results_cell_row rfl _ _ (w.heap.size + 1) 81 _ (0, 0) _ rfl (heap_alloc2_new _ _ _) Try.underlying81 rfl (by kernel_rfl)) rfl ?_
    rw [E.out]
    exact ⟨rfl, ((Below.refl _ _).alloc (Nat.le_refl _) _).alloc (by simp only [World.size_alloc]; omega) _⟩
  | true =>
    have E : Hid (popV p h.s = wrap64 (p.v + h.s)) := by simp [Hid, popV, hu]
    go_enter Try.func34, Try.ntmps34
    go_wp2_with fail
    refine bodyPost_ret (results_cell_row rfl _ _ (w.heap.size + 1) 81 _ (0, 0) _ rfl (heap_alloc2_new _ _ _) Try.underlying81 rfl (by kernel_rfl)) rfl ?_
    rw [E.out, wrap_both]
    exact ⟨rfl, ((Below.refl _ _).alloc (Nat.le_refl _) _).alloc (by simp only [World.size_alloc]; omega) _⟩
end
end Go.Proofs.Ytodclnfhhaiblaa
