/-
  Layer 3: small laws on trails, for whatever task: lengths, counts, other blocks, new memories and trails; and who has which block.
-/
import Derived.Test.YtngihgdcoeokhaaTrailStep
namespace Go.Proofs.Ytngihgdcoeokhaa
open Go.ChangeShapes Go.WideShapes Go.ChangeAt Go.RowKit
set_option linter.unusedVariables false

section
variable {w w' w'' : World} {b g tb : Nat} {tv mv tv' mv' : Value} {T : Tr} {m m' : Mm}
theorem accT_len (k i old : Int) (T : Tr) (m : Mm) : (accT k i old T m).told.length ≤ T.told.length + 1 ∧ (accT k i old T m).marks = T.marks := by
  unfold accT
  repeat' split
  all_goals simp
theorem memOf_cnt (k i v old : Int) (m : Mm) : (memOf k i v old m).cnt ≤ m.cnt + 1 := by
  unfold memOf
  split
  · simp
  · omega
theorem accM_cnt (k i v old : Int) (T : Tr) (m : Mm) : (accM k i v old T m).cnt ≤ m.cnt + 1 := by
  unfold accM
  have := memOf_cnt k i v old m
  split <;> omega
theorem accT_fine {k i old : Int} (hf : Fine T) : Fine (accT k i old T m) := by
  have h1 := hf.ph
  have h2 := hf.place
  have h3 := hf.one
  unfold accT
  split
  · rename_i hp
    have hov := h3 (by omega)
    split
    · split
      · exact ⟨by simp, fun h => by simp at h, fun _ => hov⟩
      · exact ⟨by simp, fun h => by simp at h, fun _ => hov⟩
    · refine ⟨by simp [hp], fun _ => ?_, fun _ => hov⟩
      have := h2 hp
      simp only
      omega
  · split
    · rename_i hq
      exact ⟨by simp, fun h => by simp at h, fun _ => h3 (by omega)⟩
    · exact hf
/-- A block of another type is as it was. -/
theorem not_all {k : Nat} {t : TypeId} {cs : Array Value} (h : St w b g tb tv mv T m) (hw : Whole w k t cs) (h1 : t ≠ 57) (h2 : t ≠ 2) (h3 : t ≠ 61) (h4 : t ≠ 95) : ¬ All b g tb tv mv k := by
  rintro (rfl | rfl | rfl | hk | hk)
  · exact hw.apart h.mem.top h1 rfl
  · exact hw.apart h.mem.row h2 rfl
  · exact hw.apart h.tr.top h3 rfl
  · exact own_apart h.tr.told hw (Ne.symm h2) hk
  · exact own_apart h.tr.marks hw (Ne.symm h4) hk
theorem keeps {k : Nat} {t : TypeId} {cs : Array Value} {v : Value} {T' : Tr} {e : Ending} (h : St w b g tb tv mv T m) (hw : Whole w k t cs) (h1 : t ≠ 57) (h2 : t ≠ 2) (h3 : t ≠ 61) (h4 : t ≠ 95) (hg : Goes w b g tb tv mv v T' m' e w') : Whole w' k t cs := by
  obtain ⟨_, tv', mv', _, hm⟩ := hg
  exact hw.only hm.only (not_all h hw h1 h2 h3 h4)
theorem not_all_new {w w' : World} {b g tb : Nat} {tv mv : Value} {T : Tr} {m : Mm} {k : Nat} (h : St w b g tb tv mv T m) (hk : w.heap.size ≤ k) : ¬ All b g tb tv mv k := by
  have h1 := h.mem.top.lt
  have h2 := h.mem.row.lt
  have h3 := h.tr.top.lt
  rintro (h4 | h4 | h4 | h4 | h4)
  · omega
  · omega
  · omega
  · have := h.tr.told.lt k h4; omega
  · have := h.tr.marks.lt k h4; omega
end

theorem heap_put_same (w w' : World) (p : Addr) (u : Value) (h : w'.heap[p.block]? = w.heap[p.block]?) : (w'.setCell p u).heap[p.block]? = (w.setCell p u).heap[p.block]? := by
  simp [World.setCell, Array.getElem?_modify, h]
/-- A new memory, wherever it lies. -/
theorem new_mem_ex (n : Int) (w : World) : Calls Try.prog 8 #[.int .i64 n] w fun e w' => ∃ b g, e = .returned (.pointer (some ⟨b, 0, none⟩)) ∧ MemAt w' b g (List.replicate (many n) 0) 0 ∧ w.heap.size ≤ b ∧ w.heap.size ≤ g ∧ Below w.heap.size w w' := by
  refine (new_mem n w).mono ?_
  rintro e w' ⟨rfl, h1, h2, h3⟩
  exact ⟨_, _, rfl, h1, by omega, by omega, h2⟩
/-- A new trail, wherever it lies. -/
theorem new_trail_ex {w : World} {b g : Nat} {m : Mm} (hm : MemAt w b g m.cs m.cnt) : Calls Try.prog 9 #[.pointer (some ⟨b, 0, none⟩)] w fun e w' =>
    ∃ tb, e = .returned (.pointer (some ⟨tb, 0, none⟩)) ∧ St w' b g tb (.slice none 0 0) (.slice none 0 0) newTr m ∧ w.heap.size ≤ tb ∧ Below w.heap.size w w' := by
  refine new_trail.mono ?_
  rintro e w' ⟨rfl, rfl⟩
  have hb : Below w.heap.size w (w.alloc (.cells #[.pointer (some ⟨b, 0, none⟩), .slice none 0 0, .slice none 0 0, .bool false, .int .i64 0, .int .i64 0, .int .i64 0] 61)) := (Below.refl _ _).alloc (Nat.le_refl _) _
  exact ⟨_, rfl, ⟨newTr_at w b, hm.only (Only.of_below hb (fun _ => False)) id id, by simp [Value.ownBlock]⟩, Nat.le_refl _, hb⟩
/-- New blocks are had by id. -/
def relab (ow : Nat → Nat) (n id : Nat) : Nat → Nat := fun k => if k < n then ow k else id
theorem relab_lt {ow : Nat → Nat} {n id k : Nat} (h : k < n) : relab ow n id k = ow k := by simp [relab, h]
theorem relab_ge {ow : Nat → Nat} {n id k : Nat} (h : n ≤ k) : relab ow n id k = id := by simp [relab]; omega
def upd {α : Type} (f : Nat → α) (i : Nat) (x : α) : Nat → α := fun j => if j = i then x else f j
theorem upd_same {α : Type} (f : Nat → α) (i : Nat) (x : α) : upd f i x i = x := by simp [upd]
theorem upd_other {α : Type} (f : Nat → α) {i j : Nat} (x : α) (h : j ≠ i) : upd f i x j = f j := by simp [upd, h]
end Go.Proofs.Ytngihgdcoeokhaa
