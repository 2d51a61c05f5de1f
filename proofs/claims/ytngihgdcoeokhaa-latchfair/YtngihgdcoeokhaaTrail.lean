/-
  Layer 3: a trail in memory, and what each of its calls does but for the accesses.
-/
import Derived.Test.YtngihgdcoeokhaaCell
import Derived.Test.YtngihgdcoeokhaaOwnRow
import Derived.Test.YtngihgdcoeokhaaTrailPure
import Derived.BigQuiet
import Derived.Deep.RegionHeld3
import Derived.Deep.LoopGhost
namespace Go.Proofs.Ytngihgdcoeokhaa
open Go.ChangeShapes Go.WideShapes Go.ChangeAt Go.RowKit
set_option linter.unusedVariables false

def markCells : List (Int × Int) → List Value
  | [] => []
  | m :: l => .int .i64 m.1 :: .int .i64 m.2 :: markCells l
theorem markCells_append (l : List (Int × Int)) (m : Int × Int) : markCells (l ++ [m]) = markCells l ++ [.int .i64 m.1, .int .i64 m.2] := by
  induction l with
  | nil => rfl
  | cons a l ih => simp [markCells, ih]

/-- A trail: its struct in block tb, what it was told and its marks in rows of its own. -/
structure TrAt (w : World) (b tb : Nat) (tv mv : Value) (T : Tr) : Prop where
  top : Whole w tb 61 #[.pointer (some ⟨b, 0, none⟩), tv, mv, .bool T.over, .int .i64 T.ph, .int .i64 T.place, .int .i64 T.time]
  told : w.ownsRow 0 2 1 tv T.told.length (T.told.map (Value.int .i64))
  marks : w.ownsRow 0 95 2 mv T.marks.length (markCells T.marks)
  ft : T.told.length ≤ 1000
  fm : T.marks.length ≤ 1000

/-- A trail and its memory. -/
structure St (w : World) (b g tb : Nat) (tv mv : Value) (T : Tr) (m : Mm) : Prop where
  tr : TrAt w b tb tv mv T
  mem : MemAt w b g m.cs m.cnt
  apart : tv.ownBlock ≠ some g

/-- The blocks of both. -/
def All (b g tb : Nat) (tv mv : Value) (k : Nat) : Prop := k = b ∨ k = g ∨ k = tb ∨ tv.ownBlock = some k ∨ mv.ownBlock = some k

/-- Only those have turned; and the rows lie where they lay, or in new memory. -/
structure Moved (w : World) (b g tb : Nat) (tv mv : Value) (w' : World) (tv' mv' : Value) : Prop where
  only : Only (All b g tb tv mv) w w'
  t : ∀ k, tv'.ownBlock = some k → tv.ownBlock = some k ∨ w.heap.size ≤ k
  m : ∀ k, mv'.ownBlock = some k → mv.ownBlock = some k ∨ w.heap.size ≤ k

/-- What a call leaves: its answer, the trail, the memory. -/
def Goes (w : World) (b g tb : Nat) (tv mv : Value) (v : Value) (T : Tr) (m : Mm) (e : Ending) (w' : World) : Prop :=
  e = .returned v ∧ ∃ tv' mv', St w' b g tb tv' mv' T m ∧ Moved w b g tb tv mv w' tv' mv'

section
variable {w w' w'' : World} {b g tb : Nat} {tv mv tv' mv' tv'' mv'' : Value} {T : Tr} {m : Mm}

theorem Moved.refl (w : World) (b g tb : Nat) (tv mv : Value) : Moved w b g tb tv mv w tv mv := ⟨Only.refl _ _, fun _ h => .inl h, fun _ h => .inl h⟩
theorem Moved.all (h : Moved w b g tb tv mv w' tv' mv') {k : Nat} (hk : k < w.heap.size) (ha : All b g tb tv' mv' k) : All b g tb tv mv k := by
  rcases ha with h1 | h1 | h1 | h1 | h1
  · exact .inl h1
  · exact .inr (.inl h1)
  · exact .inr (.inr (.inl h1))
  · rcases h.t k h1 with h2 | h2
    · exact .inr (.inr (.inr (.inl h2)))
    · omega
  · rcases h.m k h1 with h2 | h2
    · exact .inr (.inr (.inr (.inr h2)))
    · omega
theorem Moved.trans (h : Moved w b g tb tv mv w' tv' mv') (k : Moved w' b g tb tv' mv' w'' tv'' mv'') : Moved w b g tb tv mv w'' tv'' mv'' := by
  refine ⟨⟨k.only.os.trans h.only.os, k.only.tape.trans h.only.tape, k.only.output.trans h.only.output, Nat.le_trans h.only.size k.only.size, fun i hi hn => ?_⟩, fun j hj => ?_, fun j hj => ?_⟩
  · exact (k.only.block i (Nat.lt_of_lt_of_le hi h.only.size) (fun ha => hn (h.all hi ha))).trans (h.only.block i hi hn)
  · rcases k.t j hj with h1 | h1
    · exact h.t j h1
    · exact .inr (Nat.le_trans h.only.size h1)
  · rcases k.m j hj with h1 | h1
    · exact h.m j h1
    · exact .inr (Nat.le_trans h.only.size h1)
theorem Moved.still (h : Below w.heap.size w w') (b g tb : Nat) (tv mv : Value) : Moved w b g tb tv mv w' tv mv := ⟨Only.of_below h _, fun _ h => .inl h, fun _ h => .inl h⟩

theorem TrAt.only {S : Nat → Prop} (h : TrAt w b tb tv mv T) (ho : Only S w w') (h1 : ¬ S tb) (h2 : ∀ k, tv.ownBlock = some k → ¬ S k) (h3 : ∀ k, mv.ownBlock = some k → ¬ S k) : TrAt w' b tb tv mv T :=
  ⟨h.top.only ho h1, own_only h.told ho h2, own_only h.marks ho h3, h.ft, h.fm⟩
theorem St.still (h : St w b g tb tv mv T m) (hb : Below w.heap.size w w') : St w' b g tb tv mv T m :=
  ⟨h.tr.only (Only.of_below hb (fun _ => False)) id (fun _ _ => id) (fun _ _ => id), h.mem.only (Only.of_below hb (fun _ => False)) id id, h.apart⟩
theorem St.drew (h : St w b g tb tv mv T m) : St w.drew b g tb tv mv T m := h.still (below_drew (Below.refl _ _))
theorem St.drewN (h : St w b g tb tv mv T m) (n : Nat) : St (w.drewN n) b g tb tv mv T m := h.still (below_drewN (Below.refl _ _) n)
theorem St.nb (h : St w b g tb tv mv T m) : tb ≠ b := h.tr.top.apart h.mem.top (by decide)
theorem St.ng (h : St w b g tb tv mv T m) : tb ≠ g := h.tr.top.apart h.mem.row (by decide)
theorem St.nt (h : St w b g tb tv mv T m) : tv.ownBlock ≠ some tb := own_apart h.tr.told h.tr.top (by decide)
theorem St.nm (h : St w b g tb tv mv T m) : mv.ownBlock ≠ some tb := own_apart h.tr.marks h.tr.top (by decide)
theorem St.mb (h : St w b g tb tv mv T m) : mv.ownBlock ≠ some b := own_apart h.tr.marks h.mem.top (by decide)
theorem St.mg (h : St w b g tb tv mv T m) : mv.ownBlock ≠ some g := own_apart h.tr.marks h.mem.row (by decide)
theorem St.tb_ (h : St w b g tb tv mv T m) : tv.ownBlock ≠ some b := own_apart h.tr.told h.mem.top (by decide)
theorem St.c0 (h : St w b g tb tv mv T m) : w.cell? ⟨tb, 0, none⟩ = some (.pointer (some ⟨b, 0, none⟩)) := by rw [h.tr.top.cell]; rfl
theorem St.c1 (h : St w b g tb tv mv T m) : w.cell? ⟨tb, 1, none⟩ = some tv := by rw [h.tr.top.cell]; rfl
theorem St.c2 (h : St w b g tb tv mv T m) : w.cell? ⟨tb, 2, none⟩ = some mv := by rw [h.tr.top.cell]; rfl
theorem St.c3 (h : St w b g tb tv mv T m) : w.cell? ⟨tb, 3, none⟩ = some (.bool T.over) := by rw [h.tr.top.cell]; rfl
theorem St.c4 (h : St w b g tb tv mv T m) : w.cell? ⟨tb, 4, none⟩ = some (.int .i64 T.ph) := by rw [h.tr.top.cell]; rfl
theorem St.c5 (h : St w b g tb tv mv T m) : w.cell? ⟨tb, 5, none⟩ = some (.int .i64 T.place) := by rw [h.tr.top.cell]; rfl
theorem St.c6 (h : St w b g tb tv mv T m) : w.cell? ⟨tb, 6, none⟩ = some (.int .i64 T.time) := by rw [h.tr.top.cell]; rfl
theorem St.f (h : St w b g tb tv mv T m) (i : Nat) : w.frozen? ⟨tb, i, none⟩ = false := h.tr.top.frozen i

theorem only_put (w : World) (b g tb : Nat) (tv mv : Value) (i : Nat) (u : Value) : Only (All b g tb tv mv) w (w.setCell ⟨tb, i, none⟩ u) := (Only.refl _ w).setCell (.inl (.inr (.inr (.inl rfl)))) u
/-- A field of the struct is set. -/
theorem St.put (h : St w b g tb tv mv T m) (i : Nat) (u : Value) (T' : Tr) (ht : T'.told = T.told) (hm : T'.marks = T.marks)
    (hc : (#[.pointer (some ⟨b, 0, none⟩), tv, mv, .bool T.over, .int .i64 T.ph, .int .i64 T.place, .int .i64 T.time] : Array Value).setIfInBounds i u = #[.pointer (some ⟨b, 0, none⟩), tv, mv, .bool T'.over, .int .i64 T'.ph, .int .i64 T'.place, .int .i64 T'.time]) :
    St (w.setCell ⟨tb, i, none⟩ u) b g tb tv mv T' m := by
  refine ⟨⟨?_, ?_, ?_, by rw [ht]; exact h.tr.ft, by rw [hm]; exact h.tr.fm⟩, ?_, h.apart⟩
  · have := h.tr.top.put i u
    rw [hc] at this
    exact this
  · rw [ht]; exact own_far h.tr.told h.nt u
  · rw [hm]; exact own_far h.tr.marks h.nm u
  · exact ⟨h.mem.top.far (Ne.symm h.nb) u, h.mem.row.far (Ne.symm h.ng) u, h.mem.few, h.mem.lo, h.mem.hi⟩
theorem St.moved (w : World) (b g tb : Nat) (tv mv : Value) (i : Nat) (u : Value) : Moved w b g tb tv mv (w.setCell ⟨tb, i, none⟩ u) tv mv := ⟨only_put .., fun _ h => .inl h, fun _ h => .inl h⟩

theorem overs (h : St w b g tb tv mv T m) : Calls Try.prog 10 #[.pointer (some ⟨tb, 0, none⟩)] w fun e w' => e = .returned (.bool T.over) ∧ w = w' := by
  have h3 := h.c3
  clear h
  go_enter Try.func10, Try.ntmps10
  go_wp2
  go_ret
  exact ⟨rfl, rfl⟩
theorem steps (h : St w b g tb tv mv T m) : Calls Try.prog 18 #[.pointer (some ⟨tb, 0, none⟩)] w fun e w' => e = .returned (.int .i64 T.told.length) ∧ w = w' := by
  have h1 := h.c1
  obtain ⟨A, c, rfl⟩ := own_slice h.tr.told
  clear h
  go_enter Try.func18, Try.ntmps18
  go_wp2
  go_ret
  exact ⟨rfl, rfl⟩
theorem freshs (h : St w b g tb tv mv T m) (hf : Fine T) : Calls Try.prog 37 #[.pointer (some ⟨tb, 0, none⟩)] w fun e w' => e = .returned (.bool (fresh T)) ∧ w = w' := by
  have h4 := h.c4
  clear h
  have key : Hid (fresh T = decide (T.ph = 2 ∨ T.ph = 3)) := rfl
  have := hf.ph
  clear hf
  generalize fresh T = r at *
  generalize T.ph = p at *
  rcases this with rfl | rfl | rfl | rfl | rfl
  all_goals
    go_enter Try.func37, Try.ntmps37
    go_wp2
    go_ret
    rw [key.out]
    exact ⟨rfl, rfl⟩
theorem drys (h : St w b g tb tv mv T m) (hf : Fine T) : Calls Try.prog 20 #[.pointer (some ⟨tb, 0, none⟩)] w fun e w' => e = .returned (.bool (dry T)) ∧ w = w' := by
  have h4 := h.c4
  have h3 := h.c3
  clear h
  have key : Hid (dry T = decide (T.ph = 3 ∨ T.ph = 4 ∨ (T.ph = 0 ∧ T.over = false))) := rfl
  have := hf.ph
  clear hf
  have hnot : ∀ (x : Bool) (w : World), (Op.unary .not (.bool x)).run Try.prog w = .ok (.bool (!x)) w := fun _ _ => rfl
  generalize dry T = r at *
  generalize T.ph = p at *
  generalize T.over = o at *
  rcases this with rfl | rfl | rfl | rfl | rfl
  all_goals
    go_enter Try.func20, Try.ntmps20
    go_wp2
    go_ret
    rw [key.out]
    refine ⟨?_, rfl⟩
    first | rfl | (cases o <;> rfl)
end

/-- A new trail. -/
def newTr : Tr := ⟨[], [], false, 0, 0, 0⟩
theorem newTr_fine : Fine newTr := ⟨.inl rfl, fun h => absurd h (by decide), fun _ => rfl⟩
theorem new_trail {w : World} {b : Nat} : Calls Try.prog 9 #[.pointer (some ⟨b, 0, none⟩)] w fun e w' =>
    e = .returned (.pointer (some ⟨w.heap.size, 0, none⟩)) ∧ w' = w.alloc (.cells #[.pointer (some ⟨b, 0, none⟩), .slice none 0 0, .slice none 0 0, .bool false, .int .i64 0, .int .i64 0, .int .i64 0] 61) := by
  go_enter Try.func9, Try.ntmps9
  go_wp2
  go_ret
  exact ⟨rfl, rfl⟩
theorem newTr_at (w : World) (b : Nat) : TrAt (w.alloc (.cells #[.pointer (some ⟨b, 0, none⟩), .slice none 0 0, .slice none 0 0, .bool false, .int .i64 0, .int .i64 0, .int .i64 0] 61)) b w.heap.size (.slice none 0 0) (.slice none 0 0) newTr :=
  ⟨Whole.new w _ _, World.ownsRow_nil _ _ _ _, World.ownsRow_nil _ _ _ _, by simp [newTr], by simp [newTr]⟩
end Go.Proofs.Ytngihgdcoeokhaa
