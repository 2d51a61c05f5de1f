/-
  Texts of our own, one behind the other (Cell, TrailPure, Trail, TrailDo, TrailAcc, TrailOps, TrailStep, TrailKit): what the laws' proofs rest on; each says at its head what it holds. No conditions.
-/
import Derived.Test.YtejkhnphplpkeaaRows
import Derived.Test.YtejkhnphplpkeaaPkA
import Derived.WalkKit
import Derived.ProofKit
import Derived.OpenShut
import Derived.WalkSpells
import Derived.WalkLawsBesides
import Derived.Deep.OwnRows
import Derived.Lib.Hide
import Derived.BigQuiet
import Derived.Deep.RegionHeld3
import Derived.Deep.LoopGhost
import Derived.Deep.RegionWith
import Derived.StillTailTactics
import Derived.Deep.DeepCutAuto
import Derived.Deep.CutBlock
import Derived.Deep.QuietTactic
import Derived.Defers
import Derived.Recover
/-
  Layer 1: what each call on a memory does, as a contract over its cells and its count.
-/
namespace Go.Proofs.Ytejkhnphplpkeaa
open Go.ChangeShapes Go.WideShapes Go.ChangeAt Go.RowKit
set_option linter.unusedVariables false

/-- A memory: its struct in block b, its cells in block g. -/
structure MemAt (w : World) (b g : Nat) (cs : List Int) (cnt : Int) : Prop where
  top : Whole w b 92 #[.slice (some ⟨g, 0, none⟩) cs.length cs.length, .int .i64 cnt]
  row : Whole w g 2 (nums cs)
  few : cs.length ≤ 65536
  lo : 0 ≤ cnt
  hi : cnt ≤ 4611686018427387904

/-- The blocks of a memory. -/
def CTwo (b g : Nat) (k : Nat) : Prop := k = b ∨ k = g

section
variable {w w' : World} {b g : Nat} {cs : List Int} {cnt : Int}
theorem MemAt.ne (h : MemAt w b g cs cnt) : b ≠ g := h.top.apart h.row (by decide)
theorem MemAt.c0 (h : MemAt w b g cs cnt) : w.cell? ⟨b, 0, none⟩ = some (.slice (some ⟨g, 0, none⟩) cs.length cs.length) := by rw [h.top.cell]; rfl
theorem MemAt.c1 (h : MemAt w b g cs cnt) : w.cell? ⟨b, 1, none⟩ = some (.int .i64 cnt) := by rw [h.top.cell]; rfl
theorem MemAt.f1 (h : MemAt w b g cs cnt) : w.frozen? ⟨b, 1, none⟩ = false := h.top.frozen 1
theorem MemAt.cg (h : MemAt w b g cs cnt) (i : Nat) (hi : i < cs.length) : w.cell? ⟨g, i, none⟩ = some (.int .i64 (nth cs i)) := by rw [h.row.cell]; exact nums_at cs i hi
theorem MemAt.fg (h : MemAt w b g cs cnt) (i : Nat) : w.frozen? ⟨g, i, none⟩ = false := h.row.frozen i
theorem MemAt.only {S : Nat → Prop} (h : MemAt w b g cs cnt) (ho : Only S w w') (hb : ¬ S b) (hg : ¬ S g) : MemAt w' b g cs cnt :=
  ⟨h.top.only ho hb, h.row.only ho hg, h.few, h.lo, h.hi⟩
theorem MemAt.count (h : MemAt w b g cs cnt) (hc : cnt + 1 ≤ 4611686018427387904) : MemAt (w.setCell ⟨b, 1, none⟩ (.int .i64 (cnt + 1))) b g cs (cnt + 1) :=
  ⟨h.top.put 1 _, h.row.far (Ne.symm h.ne) _, h.few, by have := h.lo; omega, hc⟩
theorem MemAt.store (h : MemAt w b g cs cnt) (i : Nat) (v : Int) : MemAt (w.setCell ⟨g, i, none⟩ (.int .i64 v)) b g (cs.set i v) cnt :=
  ⟨by rw [List.length_set]; exact h.top.far h.ne _, by have := h.row.put i (.int .i64 v); rw [nums_set] at this; exact this, by rw [List.length_set]; exact h.few, h.lo, h.hi⟩
end

theorem Try.info2' : (Try.prog.info? 2).map (fun i => (i.zero, i.size, i.bytes)) = some (some (.int .i64 0), 1, 8) := by kernel_rfl

theorem find_in (b g n : Nat) (i : Int) (w : World) (hc : w.cell? ⟨b, 0, none⟩ = some (.slice (some ⟨g, 0, none⟩) n n)) (h0 : 0 ≤ i) (h1 : i < n) (hn : n ≤ 65536) :
    Calls Try.prog 69 #[.pointer (some ⟨b, 0, none⟩), .int .i64 i] w fun e w' => e = .returned (.tuple #[.pointer (some ⟨g, i.toNat, none⟩), .bool true]) ∧ w = w' := by
  go_enter Try.func69, Try.ntmps69
  go_wp2
  go_ret2
  exact ⟨rfl, rfl⟩

theorem find_out (b g n : Nat) (i : Int) (w : World) (hc : w.cell? ⟨b, 0, none⟩ = some (.slice (some ⟨g, 0, none⟩) n n)) (h : i < 0 ∨ (n : Int) ≤ i) :
    Calls Try.prog 69 #[.pointer (some ⟨b, 0, none⟩), .int .i64 i] w fun e w' => e = .returned (.tuple #[.pointer none, .bool false]) ∧ w = w' := by
  rcases h with h | h
  · go_enter Try.func69, Try.ntmps69
    go_wp2
    go_ret2
    exact ⟨rfl, rfl⟩
  · have h' : 0 ≤ i := by omega
    go_enter Try.func69, Try.ntmps69
    go_wp2
    go_ret2
    exact ⟨rfl, rfl⟩

theorem access_in (b g n : Nat) (i cnt : Int) (w : World) (hc : w.cell? ⟨b, 0, none⟩ = some (.slice (some ⟨g, 0, none⟩) n n)) (hc1 : w.cell? ⟨b, 1, none⟩ = some (.int .i64 cnt)) (hf1 : w.frozen? ⟨b, 1, none⟩ = false)
    (h0 : 0 ≤ i) (h1 : i < n) (hn : n ≤ 65536) (hl : 0 ≤ cnt) (hu : cnt ≤ 4611686018427387904) :
    Calls Try.prog 50 #[.pointer (some ⟨b, 0, none⟩), .int .i64 i] w fun e w' => e = .returned (.tuple #[.pointer (some ⟨g, i.toNat, none⟩), .int .i64 0]) ∧ w.setCell ⟨b, 1, none⟩ (.int .i64 (cnt + 1)) = w' := by
  go_enter Try.func50, Try.ntmps50
  go_wp2_with (go_at_call 69; refine (find_in b g n i _ hc h0 h1 hn).mono ?_; rintro e w' ⟨rfl, rfl⟩)
  go_ret2
  exact ⟨rfl, rfl⟩

theorem access_out (b g n : Nat) (i : Int) (w : World) (hc : w.cell? ⟨b, 0, none⟩ = some (.slice (some ⟨g, 0, none⟩) n n)) (h : i < 0 ∨ (n : Int) ≤ i) :
    Calls Try.prog 50 #[.pointer (some ⟨b, 0, none⟩), .int .i64 i] w fun e w' => e = .returned (.tuple #[.pointer none, .int .i64 1]) ∧ w = w' := by
  have H := Lib.hid h
  clear h
  go_enter Try.func50, Try.ntmps50
  go_wp2_with (go_at_call 69; refine (find_out b g n i _ hc H.out).mono ?_; rintro e w' ⟨rfl, rfl⟩)
  go_ret2
  exact ⟨rfl, rfl⟩


/-- What an access leaves: its answer, the cells, one access more; and nothing else has turned. -/
def Did (w : World) (b g : Nat) (v : Value) (cs : List Int) (cnt : Int) (e : Ending) (w' : World) : Prop :=
  e = .returned v ∧ MemAt w' b g cs cnt ∧ Only (CTwo b g) w w'

section
variable {w : World} {b g : Nat} {cs : List Int} {cnt : Int}
theorem only_count (w : World) (b g : Nat) (v : Value) : Only (CTwo b g) w (w.setCell ⟨b, 1, none⟩ v) := (Only.refl _ w).setCell (.inl (.inl rfl)) v
theorem only_both (w : World) (b g : Nat) (v u : Value) (i : Nat) : Only (CTwo b g) w ((w.setCell ⟨b, 1, none⟩ v).setCell ⟨g, i, none⟩ u) := (only_count w b g v).setCell (.inl (.inr rfl)) u

theorem load_in (i : Int) (h : MemAt w b g cs cnt) (h0 : 0 ≤ i) (h1 : i < cs.length) (hu : cnt + 1 ≤ 4611686018427387904) :
    Calls Try.prog 92 #[.pointer (some ⟨b, 0, none⟩), .int .i64 i] w (Did w b g (.tuple #[.int .i64 (nth cs i.toNat), .int .i64 0]) cs (cnt + 1)) := by
  have hc := h.c0
  have hc1 := h.c1
  have hf1 := h.f1
  have hm := h.count hu
  have hl := h.lo
  have hn := h.few
  have hg := hm.cg i.toNat (by omega)
  have fin : Did w b g (.tuple #[.int .i64 (nth cs i.toNat), .int .i64 0]) cs (cnt + 1) (.returned (.tuple #[.int .i64 (nth cs i.toNat), .int .i64 0])) (w.setCell ⟨b, 1, none⟩ (.int .i64 (cnt + 1))) := ⟨rfl, hm, only_count ..⟩
  generalize nth cs i.toNat = x at *
  generalize cs.length = n at *
  clear hm h
  have FIN := Lib.hid fin
  clear fin
  go_enter Try.func92, Try.ntmps92
  go_wp2_with (go_at_call 50; refine (access_in b g n i cnt _ hc hc1 hf1 h0 h1 hn hl (by omega)).mono ?_; rintro e w' ⟨rfl, rfl⟩)
  go_ret2
  exact FIN.out

theorem load_out (i : Int) (h : MemAt w b g cs cnt) (ho : i < 0 ∨ (cs.length : Int) ≤ i) :
    Calls Try.prog 92 #[.pointer (some ⟨b, 0, none⟩), .int .i64 i] w fun e w' => e = .returned (.tuple #[.int .i64 0, .int .i64 1]) ∧ w = w' := by
  have hc := h.c0
  have H := Lib.hid ho
  clear h ho
  go_enter Try.func92, Try.ntmps92
  go_wp2_with (go_at_call 50; refine (access_out b g _ i _ hc H.out).mono ?_; rintro e w' ⟨rfl, rfl⟩)
  go_ret2
  exact ⟨rfl, rfl⟩

theorem store_in (i v : Int) (h : MemAt w b g cs cnt) (h0 : 0 ≤ i) (h1 : i < cs.length) (hu : cnt + 1 ≤ 4611686018427387904) :
    Calls Try.prog 29 #[.pointer (some ⟨b, 0, none⟩), .int .i64 i, .int .i64 v] w (Did w b g (.int .i64 0) (cs.set i.toNat v) (cnt + 1)) := by
  have hc := h.c0
  have hc1 := h.c1
  have hf1 := h.f1
  have hm := h.count hu
  have hl := h.lo
  have hn := h.few
  have hg := hm.cg i.toNat (by omega)
  have hgf := hm.fg i.toNat
  have fin : Did w b g (.int .i64 0) (cs.set i.toNat v) (cnt + 1) (.returned (.int .i64 0)) ((w.setCell ⟨b, 1, none⟩ (.int .i64 (cnt + 1))).setCell ⟨g, i.toNat, none⟩ (.int .i64 v)) := ⟨rfl, hm.store _ _, only_both ..⟩
  generalize nth cs i.toNat = x at *
  have FIN := Lib.hid fin
  generalize cs.length = n at *
  clear hm h fin
  go_enter Try.func29, Try.ntmps29
  go_wp2_with (go_at_call 50; refine (access_in b g n i cnt _ hc hc1 hf1 h0 h1 hn hl (by omega)).mono ?_; rintro e w' ⟨rfl, rfl⟩)
  go_ret
  exact FIN.out

theorem store_out (i v : Int) (h : MemAt w b g cs cnt) (ho : i < 0 ∨ (cs.length : Int) ≤ i) :
    Calls Try.prog 29 #[.pointer (some ⟨b, 0, none⟩), .int .i64 i, .int .i64 v] w fun e w' => e = .returned (.int .i64 1) ∧ w = w' := by
  have hc := h.c0
  have H := Lib.hid ho
  clear h ho
  go_enter Try.func29, Try.ntmps29
  go_wp2_with (go_at_call 50; refine (access_out b g _ i _ hc H.out).mono ?_; rintro e w' ⟨rfl, rfl⟩)
  go_ret
  exact ⟨rfl, rfl⟩





end

/-- A row of noughts, however many there may be. -/
theorem rowOf (n : Nat) (hn : n ≤ 65536) (w : World) : (Instr.makeSlice 27 (.int .i64 (n : Int)) (.int .i64 (n : Int))).run Try.prog w = .ok (.slice (some ⟨w.heap.size, 0, none⟩) n n) (w.alloc (.cells (madeCells #[.int .i64 0] n) 2)) :=
  run_make_row' 27 2 _ 8 Try.underlying27 Try.info2' rfl _ _ n (by omega) (by omega) w
theorem rowOf0 (w : World) : (Instr.makeSlice 27 (.int .i64 0) (.int .i64 0)).run Try.prog w = .ok (.slice (some ⟨w.heap.size, 0, none⟩) 0 0) (w.alloc (.cells (madeCells #[.int .i64 0] 0) 2)) := rowOf 0 (by omega) w
theorem rowOfMost (w : World) : (Instr.makeSlice 27 (.int .i64 65536) (.int .i64 65536)).run Try.prog w = .ok (.slice (some ⟨w.heap.size, 0, none⟩) 65536 65536) (w.alloc (.cells (madeCells #[.int .i64 0] 65536) 2)) := rowOf 65536 (by omega) w

/-- How many cells a new memory has. -/
def many (n : Int) : Nat := min n.toNat 65536

/-- A new memory: noughts, and nothing else has turned. -/
def Made (w : World) (k : Nat) (e : Ending) (w' : World) : Prop :=
  e = .returned (.pointer (some ⟨w.heap.size + 1, 0, none⟩)) ∧ MemAt w' (w.heap.size + 1) w.heap.size (List.replicate k 0) 0 ∧ Below w.heap.size w w' ∧ w'.heap.size = w.heap.size + 2

theorem made_of (w : World) (k : Nat) (hk : k ≤ 65536) : Made w k (.returned (.pointer (some ⟨w.heap.size + 1, 0, none⟩)))
    ((w.alloc (.cells (madeCells #[.int .i64 0] k) 2)).alloc (.cells #[.slice (some ⟨w.heap.size, 0, none⟩) k k, .int .i64 0] 92)) := by
  refine ⟨rfl, ⟨?_, ?_, by simpa using hk, by omega, by omega⟩, ((Below.refl _ _).alloc (Nat.le_refl _) _).alloc (by simp) _, by simp⟩
  · have := Whole.new (w.alloc (.cells (madeCells #[.int .i64 0] k) 2)) 92 #[.slice (some ⟨w.heap.size, 0, none⟩) k k, .int .i64 0]
    rw [World.size_alloc] at this
    rw [List.length_replicate]
    exact this
  · have := (Whole.new w 2 (madeCells #[.int .i64 0] k)).alloc (.cells #[.slice (some ⟨w.heap.size, 0, none⟩) k k, .int .i64 0] 92)
    rw [← nums_made]
    exact this

set_option maxHeartbeats 1000000 in
theorem new_mem (n : Int) (w : World) : Calls Try.prog 26 #[.int .i64 n] w (Made w (many n)) := by
  have hsplit : (n < 0) ∨ (65536 < n) ∨ (∃ k : Nat, n = k ∧ k ≤ 65536) := by
    by_cases h1 : n < 0
    · exact .inl h1
    · by_cases h2 : 65536 < n
      · exact .inr (.inl h2)
      · exact .inr (.inr ⟨n.toNat, by omega, by omega⟩)
  rcases hsplit with h | h | ⟨k, rfl, h⟩
  · have hm := rowOf0
    have hk : Hid (many n = 0) := by unfold Hid many; omega
    go_enter Try.func26, Try.ntmps26
    go_wp2
    go_ret
    rw [hk.out]
    exact made_of w 0 (by omega)
  · have hm := rowOfMost
    have hk : Hid (many n = 65536) := by unfold Hid many; omega
    have hge : 0 ≤ n := by omega
    go_enter Try.func26, Try.ntmps26
    go_wp2
    go_ret
    rw [hk.out]
    exact made_of w 65536 (by omega)
  · have hm := rowOf k h
    have hk : Hid (many (k : Int) = k) := by unfold Hid many; omega
    go_enter Try.func26, Try.ntmps26
    go_wp2
    go_ret
    rw [hk.out]
    exact made_of w k h
end Go.Proofs.Ytejkhnphplpkeaa

/-
  Layer 3, pure: what an access does to a trail and to a memory, and what a run of a program of accesses does.
-/
namespace Go.Proofs.Ytejkhnphplpkeaa
open Go.RowKit

/-- A trail: what it remembers, and how far its step is (0 between steps, 1 again, 2 done, 3 waits, 4 dry). -/
structure Tr where
  told : List Int
  marks : List (Int × Int)
  over : Bool
  ph : Int
  place : Nat
  time : Int

/-- A memory: its cells, and how many accesses it has had. -/
structure Mm where
  cs : List Int
  cnt : Int

/-- Is there such a cell? -/
def inb (i : Int) (m : Mm) : Bool := decide (0 ≤ i ∧ i < m.cs.length)

/-- What the access (0 load, 1 store, 2 add, 3 swap, 4 wait) is told by the memory. -/
def toldOf (k i old : Int) (m : Mm) : Int :=
  if inb i m then (if k = 1 then 0 else if k = 3 then (if nth m.cs i.toNat = old then 1 else 0) else nth m.cs i.toNat) else 0
/-- Has it ended? -/
def okOf (k i old : Int) (m : Mm) : Bool := if k = 4 then inb i m && decide (nth m.cs i.toNat = old) else true
/-- What it makes of the memory. -/
def memOf (k i v old : Int) (m : Mm) : Mm :=
  if inb i m then
    ⟨if k = 1 then m.cs.set i.toNat v else if k = 2 then m.cs.set i.toNat (wrap64 (nth m.cs i.toNat + v)) else if k = 3 then (if nth m.cs i.toNat = old then m.cs.set i.toNat v else m.cs) else m.cs, m.cnt + 1⟩
  else m

/-- An access by a trail. -/
def accT (k i old : Int) (T : Tr) (m : Mm) : Tr :=
  if T.ph = 1 then
    if T.place = T.told.length then
      if okOf k i old m then { T with told := T.told ++ [toldOf k i old m], ph := 2, place := T.place + 1 } else { T with ph := 3 }
    else { T with place := T.place + 1 }
  else if T.ph = 2 ∨ T.ph = 3 then { T with ph := 4 } else T
def accM (k i v old : Int) (T : Tr) (m : Mm) : Mm := if T.ph = 1 ∧ T.place = T.told.length then memOf k i v old m else m
def accV (k i old : Int) (T : Tr) (m : Mm) : Int :=
  if T.ph = 1 then
    if T.place = T.told.length then (if okOf k i old m then toldOf k i old m else 0) else nth T.told T.place
  else 0

def fresh (T : Tr) : Bool := decide (T.ph = 2 ∨ T.ph = 3)
def dry (T : Tr) : Bool := decide (T.ph = 3 ∨ T.ph = 4 ∨ (T.ph = 0 ∧ T.over = false))
def marked (kd : Int) (T : Tr) : Tr := if fresh T then { T with marks := T.marks ++ [(kd, T.time)] } else T

/-- What may be of a trail. -/
structure Fine (T : Tr) : Prop where
  ph : T.ph = 0 ∨ T.ph = 1 ∨ T.ph = 2 ∨ T.ph = 3 ∨ T.ph = 4
  place : T.ph = 1 → T.place ≤ T.told.length
  one : T.ph ≠ 0 → T.over = false

/-- An op of a program. -/
structure Pop where
  kd : Int
  i : Int
  v : Int
  old : Int
  use : Bool

/-- What comes of an op, where the sum is s. -/
def popV (o : Pop) (s : Int) : Int := if o.use then wrap64 (o.v + s) else o.v
def popT (o : Pop) (T : Tr) (m : Mm) : Tr := if o.kd % 6 = 5 then marked o.i T else accT (o.kd % 6) o.i o.old T m
def popM (o : Pop) (s : Int) (T : Tr) (m : Mm) : Mm := if o.kd % 6 = 5 then m else accM (o.kd % 6) o.i (popV o s) o.old T m
def popG (o : Pop) (T : Tr) (m : Mm) : Int :=
  if o.kd % 6 = 0 ∨ o.kd % 6 = 2 then accV (o.kd % 6) o.i o.old T m
  else if o.kd % 6 = 3 then (if accV 3 o.i o.old T m ≠ 0 then 1 else 0)
  else if o.kd % 6 = 4 then o.old else 0

/-- Where a program is: the trail, the memory, the sum. -/
structure Pst where
  T : Tr
  m : Mm
  s : Int
def pop (o : Pop) (x : Pst) : Pst := ⟨popT o x.T x.m, popM o x.s x.T x.m, wrap64 (x.s + popG o x.T x.m)⟩

/-- A run: it ends where the trail is dry, or at the program's end. -/
def runP : List Pop → Pst → Pst × Bool
  | [], x => (x, true)
  | o :: l, x => if dry (pop o x).T then (pop o x, false) else runP l (pop o x)

def began (time : Int) (T : Tr) : Tr := { T with ph := 1, place := 0, time := time }
def ended (T : Tr) : Tr := { T with over := !dry T, ph := 0 }
end Go.Proofs.Ytejkhnphplpkeaa

/-
  Layer 3: a trail in memory, and what each of its calls does but for the accesses.
-/
namespace Go.Proofs.Ytejkhnphplpkeaa
open Go.ChangeShapes Go.WideShapes Go.ChangeAt Go.RowKit
set_option linter.unusedVariables false

def markCells : List (Int × Int) → List Value
  | [] => []
  | m :: l => .int .i64 m.1 :: .int .i64 m.2 :: markCells l
theorem markCells_append (l : List (Int × Int)) (m : Int × Int) : markCells (l ++ [m]) = markCells l ++ [.int .i64 m.1, .int .i64 m.2] := by
  induction l with
  | nil => rfl
  | cons a l ih => simp [markCells, ih]

/-- A trail: its struct in block tb, what it was told and its marks in rows of its own. -/
structure TrAt (w : World) (b tb : Nat) (tv mv : Value) (T : Tr) : Prop where
  top : Whole w tb 102 #[.pointer (some ⟨b, 0, none⟩), tv, mv, .bool T.over, .int .i64 T.ph, .int .i64 T.place, .int .i64 T.time]
  told : w.ownsRow 0 2 1 tv T.told.length (T.told.map (Value.int .i64))
  marks : w.ownsRow 0 175 2 mv T.marks.length (markCells T.marks)
  ft : T.told.length ≤ 60000
  fm : T.marks.length ≤ 60000

/-- A trail and its memory. -/
structure St (w : World) (b g tb : Nat) (tv mv : Value) (T : Tr) (m : Mm) : Prop where
  tr : TrAt w b tb tv mv T
  mem : MemAt w b g m.cs m.cnt
  apart : tv.ownBlock ≠ some g

/-- The blocks of both. -/
def All (b g tb : Nat) (tv mv : Value) (k : Nat) : Prop := k = b ∨ k = g ∨ k = tb ∨ tv.ownBlock = some k ∨ mv.ownBlock = some k

/-- Only those have turned; and the rows lie where they lay, or in new memory. -/
structure Moved (w : World) (b g tb : Nat) (tv mv : Value) (w' : World) (tv' mv' : Value) : Prop where
  only : Only (All b g tb tv mv) w w'
  t : ∀ k, tv'.ownBlock = some k → tv.ownBlock = some k ∨ w.heap.size ≤ k
  m : ∀ k, mv'.ownBlock = some k → mv.ownBlock = some k ∨ w.heap.size ≤ k

/-- What a call leaves: its answer, the trail, the memory. -/
def Goes (w : World) (b g tb : Nat) (tv mv : Value) (v : Value) (T : Tr) (m : Mm) (e : Ending) (w' : World) : Prop :=
  e = .returned v ∧ ∃ tv' mv', St w' b g tb tv' mv' T m ∧ Moved w b g tb tv mv w' tv' mv'

section
variable {w w' w'' : World} {b g tb : Nat} {tv mv tv' mv' tv'' mv'' : Value} {T : Tr} {m : Mm}

theorem Moved.refl (w : World) (b g tb : Nat) (tv mv : Value) : Moved w b g tb tv mv w tv mv := ⟨Only.refl _ _, fun _ h => .inl h, fun _ h => .inl h⟩
theorem Moved.all (h : Moved w b g tb tv mv w' tv' mv') {k : Nat} (hk : k < w.heap.size) (ha : All b g tb tv' mv' k) : All b g tb tv mv k := by
  rcases ha with h1 | h1 | h1 | h1 | h1
  · exact .inl h1
  · exact .inr (.inl h1)
  · exact .inr (.inr (.inl h1))
  · rcases h.t k h1 with h2 | h2
    · exact .inr (.inr (.inr (.inl h2)))
    · omega
  · rcases h.m k h1 with h2 | h2
    · exact .inr (.inr (.inr (.inr h2)))
    · omega
theorem Moved.trans (h : Moved w b g tb tv mv w' tv' mv') (k : Moved w' b g tb tv' mv' w'' tv'' mv'') : Moved w b g tb tv mv w'' tv'' mv'' := by
  refine ⟨⟨k.only.os.trans h.only.os, k.only.tape.trans h.only.tape, k.only.output.trans h.only.output, Nat.le_trans h.only.size k.only.size, fun i hi hn => ?_⟩, fun j hj => ?_, fun j hj => ?_⟩
  · exact (k.only.block i (Nat.lt_of_lt_of_le hi h.only.size) (fun ha => hn (h.all hi ha))).trans (h.only.block i hi hn)
  · rcases k.t j hj with h1 | h1
    · exact h.t j h1
    · exact .inr (Nat.le_trans h.only.size h1)
  · rcases k.m j hj with h1 | h1
    · exact h.m j h1
    · exact .inr (Nat.le_trans h.only.size h1)
theorem Moved.still (h : Below w.heap.size w w') (b g tb : Nat) (tv mv : Value) : Moved w b g tb tv mv w' tv mv := ⟨Only.of_below h _, fun _ h => .inl h, fun _ h => .inl h⟩

theorem TrAt.only {S : Nat → Prop} (h : TrAt w b tb tv mv T) (ho : Only S w w') (h1 : ¬ S tb) (h2 : ∀ k, tv.ownBlock = some k → ¬ S k) (h3 : ∀ k, mv.ownBlock = some k → ¬ S k) : TrAt w' b tb tv mv T :=
  ⟨h.top.only ho h1, own_only h.told ho h2, own_only h.marks ho h3, h.ft, h.fm⟩
theorem St.still (h : St w b g tb tv mv T m) (hb : Below w.heap.size w w') : St w' b g tb tv mv T m :=
  ⟨h.tr.only (Only.of_below hb (fun _ => False)) id (fun _ _ => id) (fun _ _ => id), h.mem.only (Only.of_below hb (fun _ => False)) id id, h.apart⟩
theorem St.drew (h : St w b g tb tv mv T m) : St w.drew b g tb tv mv T m := h.still (below_drew (Below.refl _ _))
theorem St.drewN (h : St w b g tb tv mv T m) (n : Nat) : St (w.drewN n) b g tb tv mv T m := h.still (below_drewN (Below.refl _ _) n)
theorem St.nb (h : St w b g tb tv mv T m) : tb ≠ b := h.tr.top.apart h.mem.top (by decide)
theorem St.ng (h : St w b g tb tv mv T m) : tb ≠ g := h.tr.top.apart h.mem.row (by decide)
theorem St.nt (h : St w b g tb tv mv T m) : tv.ownBlock ≠ some tb := own_apart h.tr.told h.tr.top (by decide)
theorem St.nm (h : St w b g tb tv mv T m) : mv.ownBlock ≠ some tb := own_apart h.tr.marks h.tr.top (by decide)
theorem St.mb (h : St w b g tb tv mv T m) : mv.ownBlock ≠ some b := own_apart h.tr.marks h.mem.top (by decide)
theorem St.mg (h : St w b g tb tv mv T m) : mv.ownBlock ≠ some g := own_apart h.tr.marks h.mem.row (by decide)
theorem St.tb_ (h : St w b g tb tv mv T m) : tv.ownBlock ≠ some b := own_apart h.tr.told h.mem.top (by decide)
theorem St.c0 (h : St w b g tb tv mv T m) : w.cell? ⟨tb, 0, none⟩ = some (.pointer (some ⟨b, 0, none⟩)) := by rw [h.tr.top.cell]; rfl
theorem St.c1 (h : St w b g tb tv mv T m) : w.cell? ⟨tb, 1, none⟩ = some tv := by rw [h.tr.top.cell]; rfl
theorem St.c2 (h : St w b g tb tv mv T m) : w.cell? ⟨tb, 2, none⟩ = some mv := by rw [h.tr.top.cell]; rfl
theorem St.c3 (h : St w b g tb tv mv T m) : w.cell? ⟨tb, 3, none⟩ = some (.bool T.over) := by rw [h.tr.top.cell]; rfl
theorem St.c4 (h : St w b g tb tv mv T m) : w.cell? ⟨tb, 4, none⟩ = some (.int .i64 T.ph) := by rw [h.tr.top.cell]; rfl
theorem St.c5 (h : St w b g tb tv mv T m) : w.cell? ⟨tb, 5, none⟩ = some (.int .i64 T.place) := by rw [h.tr.top.cell]; rfl
theorem St.c6 (h : St w b g tb tv mv T m) : w.cell? ⟨tb, 6, none⟩ = some (.int .i64 T.time) := by rw [h.tr.top.cell]; rfl
theorem St.f (h : St w b g tb tv mv T m) (i : Nat) : w.frozen? ⟨tb, i, none⟩ = false := h.tr.top.frozen i

theorem trOnly_put (w : World) (b g tb : Nat) (tv mv : Value) (i : Nat) (u : Value) : Only (All b g tb tv mv) w (w.setCell ⟨tb, i, none⟩ u) := (Only.refl _ w).setCell (.inl (.inr (.inr (.inl rfl)))) u
/-- A field of the struct is set. -/
theorem St.put (h : St w b g tb tv mv T m) (i : Nat) (u : Value) (T' : Tr) (ht : T'.told = T.told) (hm : T'.marks = T.marks)
    (hc : (#[.pointer (some ⟨b, 0, none⟩), tv, mv, .bool T.over, .int .i64 T.ph, .int .i64 T.place, .int .i64 T.time] : Array Value).setIfInBounds i u = #[.pointer (some ⟨b, 0, none⟩), tv, mv, .bool T'.over, .int .i64 T'.ph, .int .i64 T'.place, .int .i64 T'.time]) :
    St (w.setCell ⟨tb, i, none⟩ u) b g tb tv mv T' m := by
  refine ⟨⟨?_, ?_, ?_, by rw [ht]; exact h.tr.ft, by rw [hm]; exact h.tr.fm⟩, ?_, h.apart⟩
  · have := h.tr.top.put i u
    rw [hc] at this
    exact this
  · rw [ht]; exact own_far h.tr.told h.nt u
  · rw [hm]; exact own_far h.tr.marks h.nm u
  · exact ⟨h.mem.top.far (Ne.symm h.nb) u, h.mem.row.far (Ne.symm h.ng) u, h.mem.few, h.mem.lo, h.mem.hi⟩
theorem St.moved (w : World) (b g tb : Nat) (tv mv : Value) (i : Nat) (u : Value) : Moved w b g tb tv mv (w.setCell ⟨tb, i, none⟩ u) tv mv := ⟨trOnly_put .., fun _ h => .inl h, fun _ h => .inl h⟩

theorem overs (h : St w b g tb tv mv T m) : Calls Try.prog 31 #[.pointer (some ⟨tb, 0, none⟩)] w fun e w' => e = .returned (.bool T.over) ∧ w = w' := by
  have h3 := h.c3
  clear h
  go_enter Try.func31, Try.ntmps31
  go_wp2
  go_ret
  exact ⟨rfl, rfl⟩
theorem freshs (h : St w b g tb tv mv T m) (hf : Fine T) : Calls Try.prog 86 #[.pointer (some ⟨tb, 0, none⟩)] w fun e w' => e = .returned (.bool (fresh T)) ∧ w = w' := by
  have h4 := h.c4
  clear h
  have key : Hid (fresh T = decide (T.ph = 2 ∨ T.ph = 3)) := rfl
  have := hf.ph
  clear hf
  generalize fresh T = r at *
  generalize T.ph = p at *
  rcases this with rfl | rfl | rfl | rfl | rfl
  all_goals
    go_enter Try.func86, Try.ntmps86
    go_wp2
    go_ret
    rw [key.out]
    exact ⟨rfl, rfl⟩
theorem drys (h : St w b g tb tv mv T m) (hf : Fine T) : Calls Try.prog 52 #[.pointer (some ⟨tb, 0, none⟩)] w fun e w' => e = .returned (.bool (dry T)) ∧ w = w' := by
  have h4 := h.c4
  have h3 := h.c3
  clear h
  have key : Hid (dry T = decide (T.ph = 3 ∨ T.ph = 4 ∨ (T.ph = 0 ∧ T.over = false))) := rfl
  have := hf.ph
  clear hf
  have hnot : ∀ (x : Bool) (w : World), (Op.unary .not (.bool x)).run Try.prog w = .ok (.bool (!x)) w := fun _ _ => rfl
  generalize dry T = r at *
  generalize T.ph = p at *
  generalize T.over = o at *
  rcases this with rfl | rfl | rfl | rfl | rfl
  all_goals
    go_enter Try.func52, Try.ntmps52
    go_wp2
    go_ret
    rw [key.out]
    refine ⟨?_, rfl⟩
    first | rfl | (cases o <;> rfl)
end

/-- A new trail. -/
def newTr : Tr := ⟨[], [], false, 0, 0, 0⟩
theorem newTr_fine : Fine newTr := ⟨.inl rfl, fun h => absurd h (by decide), fun _ => rfl⟩
theorem new_trail {w : World} {b : Nat} : Calls Try.prog 30 #[.pointer (some ⟨b, 0, none⟩)] w fun e w' =>
    e = .returned (.pointer (some ⟨w.heap.size, 0, none⟩)) ∧ w' = w.alloc (.cells #[.pointer (some ⟨b, 0, none⟩), .slice none 0 0, .slice none 0 0, .bool false, .int .i64 0, .int .i64 0, .int .i64 0] 102) := by
  go_enter Try.func30, Try.ntmps30
  go_wp2
  go_ret
  exact ⟨rfl, rfl⟩
theorem newTr_at (w : World) (b : Nat) : TrAt (w.alloc (.cells #[.pointer (some ⟨b, 0, none⟩), .slice none 0 0, .slice none 0 0, .bool false, .int .i64 0, .int .i64 0, .int .i64 0] 102)) b w.heap.size (.slice none 0 0) (.slice none 0 0) newTr :=
  ⟨Whole.new w _ _, World.ownsRow_nil _ _ _ _, World.ownsRow_nil _ _ _ _, by simp [newTr], by simp [newTr]⟩
end Go.Proofs.Ytejkhnphplpkeaa

/-
  Layer 3: the closures that do an access on the memory.
-/
namespace Go.Proofs.Ytejkhnphplpkeaa
open Go.ChangeShapes Go.WideShapes Go.ChangeAt Go.RowKit
set_option linter.unusedVariables false

/-- What a closure leaves: what was told, whether it has ended, the memory. -/
def Done (w : World) (b g : Nat) (x : Int) (ok : Bool) (m : Mm) (e : Ending) (w' : World) : Prop :=
  e = .returned (.tuple #[.int .i64 x, .bool ok]) ∧ MemAt w' b g m.cs m.cnt ∧ Only (CTwo b g) w w'

section
variable {w : World} {b g tb bt bi bv bo : Nat} {m : Mm} {n : Nat}


/-- What the memory's own call leaves. -/
def TdTold (w : World) (b g : Nat) (v : Value) (m : Mm) (e : Ending) (w' : World) : Prop := e = .returned v ∧ MemAt w' b g m.cs m.cnt ∧ Only (CTwo b g) w w'
/-- Its second answer. -/
def errOf (i : Int) (m : Mm) : Int := if inb i m then 0 else 1

theorem inb_yes {i : Int} (h : inb i m = true) : 0 ≤ i ∧ i < m.cs.length := by simpa [inb] using h
theorem inb_no {i : Int} (h : ¬ inb i m = true) : i < 0 ∨ (m.cs.length : Int) ≤ i := by
  simp only [inb, decide_eq_true_eq] at h
  omega

theorem load_told (i : Int) (hm : MemAt w b g m.cs m.cnt) (hu : m.cnt + 1 ≤ 4611686018427387904) :
    Calls Try.prog 92 #[.pointer (some ⟨b, 0, none⟩), .int .i64 i] w (TdTold w b g (.tuple #[.int .i64 (toldOf 0 i 0 m), .int .i64 (errOf i m)]) (memOf 0 i 0 0 m)) := by
  by_cases hi : inb i m = true
  · refine (load_in i hm (inb_yes hi).1 (inb_yes hi).2 hu).mono ?_
    rintro e w' ⟨rfl, h1, h2⟩
    exact ⟨by simp [toldOf, errOf, hi], by simpa [memOf, hi] using h1, h2⟩
  · refine (load_out i hm (inb_no hi)).mono ?_
    rintro e w' ⟨rfl, rfl⟩
    exact ⟨by simp [toldOf, errOf, hi], by simpa [memOf, hi] using hm, Only.refl _ _⟩
theorem wait_told (i v : Int) (hm : MemAt w b g m.cs m.cnt) (hu : m.cnt + 1 ≤ 4611686018427387904) :
    Calls Try.prog 92 #[.pointer (some ⟨b, 0, none⟩), .int .i64 i] w (TdTold w b g (.tuple #[.int .i64 (toldOf 4 i v m), .int .i64 (errOf i m)]) (memOf 4 i 0 v m)) := by
  refine (load_told i hm hu).mono ?_
  rintro e w' ⟨rfl, h1, h2⟩
  exact ⟨rfl, by simpa [memOf] using h1, h2⟩
theorem store_told (i v : Int) (hm : MemAt w b g m.cs m.cnt) (hu : m.cnt + 1 ≤ 4611686018427387904) :
    Calls Try.prog 29 #[.pointer (some ⟨b, 0, none⟩), .int .i64 i, .int .i64 v] w (TdTold w b g (.int .i64 (errOf i m)) (memOf 1 i v 0 m)) := by
  by_cases hi : inb i m = true
  · refine (store_in i v hm (inb_yes hi).1 (inb_yes hi).2 hu).mono ?_
    rintro e w' ⟨rfl, h1, h2⟩
    exact ⟨by simp [errOf, hi], by simpa [memOf, hi] using h1, h2⟩
  · refine (store_out i v hm (inb_no hi)).mono ?_
    rintro e w' ⟨rfl, rfl⟩
    exact ⟨by simp [errOf, hi], by simpa [memOf, hi] using hm, Only.refl _ _⟩

theorem done_of {x : Int} {ok : Bool} {m' : Mm} {w' : World} (hm : MemAt w' b g m'.cs m'.cnt) (ho : Only (CTwo b g) w.drew w') : Done w b g x ok m' (.returned (.tuple #[.int .i64 x, .bool ok])) w' :=
  ⟨rfl, hm, ⟨ho.os, ho.tape, ho.output, ho.size, ho.block⟩⟩
theorem done_of' {x : Int} {ok : Bool} {m' : Mm} {w' : World} (hm : MemAt w' b g m'.cs m'.cnt) (ho : Only (CTwo b g) w.drew w') (k : Nat) : Done w b g x ok m' (.returned (.tuple #[.int .i64 x, .bool ok])) (w'.drewN k) :=
  ⟨rfl, hm.only (Only.of_below (below_drewN (Below.refl _ _) k) (fun _ => False)) id id, ⟨ho.os, ho.tape, ho.output, ho.size, ho.block⟩⟩
theorem still_cell {p : Addr} {u : Value} {w' : World} (h : w.cell? p = some u) (hn : ¬ CTwo b g p.block) (ho : Only (CTwo b g) w.drew w') : w'.cell? p = some u := (ho.cell (World.block_lt_of_cell? w p h) hn).trans h
theorem mem_drew (hm : MemAt w b g m.cs m.cnt) : MemAt w.drew b g m.cs m.cnt := hm.only (Only.of_below (below_drew (Below.refl _ _)) (fun _ => False)) id id

theorem load_does (i : Int) (h0 : w.cell? ⟨bt, 0, none⟩ = some (.pointer (some ⟨tb, 0, none⟩))) (h1 : w.cell? ⟨bi, 0, none⟩ = some (.int .i64 i)) (ht : w.cell? ⟨tb, 0, none⟩ = some (.pointer (some ⟨b, 0, none⟩)))
    (n0 : ¬ CTwo b g bt) (n1 : ¬ CTwo b g bi) (nt : ¬ CTwo b g tb) (hm : MemAt w b g m.cs m.cnt) (hu : m.cnt + 1 ≤ 4611686018427387904) :
    Calls Try.prog 91 #[.pointer (some ⟨bt, 0, none⟩), .pointer (some ⟨bi, 0, none⟩)] w (Done w b g (toldOf 0 i 0 m) true (memOf 0 i 0 0 m)) := by
  have N0 := Lib.hid n0
  have N1 := Lib.hid n1
  have NT := Lib.hid nt
  have K := Lib.hid (mem_drew hm)
  have U := Lib.hid hu
  have C := Lib.hid (load_told (w := w.drew) (m := m) i K.out hu)
  clear hm hu nt n0 n1 U K
  generalize memOf 0 i 0 0 m = m' at *
  generalize toldOf 0 i 0 m = x at *
  generalize errOf i m = er at *
  go_enter Try.func91, Try.ntmps91
  go_upto_region 1 with (fail)
  go_region_held3 (fun w' => w'.cell? ⟨bt, 0, none⟩ = some (.pointer (some ⟨tb, 0, none⟩)) ∧ w'.cell? ⟨bi, 0, none⟩ = some (.int .i64 i) ∧ w'.cell? ⟨tb, 0, none⟩ = some (.pointer (some ⟨b, 0, none⟩)))
    (first | exact ⟨h0, h1, ht⟩ | exact ⟨still_cell h0 N0.out ho, still_cell h1 N1.out ho, still_cell ht NT.out ho⟩)
    ((go_at_call 92; refine C.out.mono ?_; rintro e w' ⟨rfl, hd, ho⟩))
  go_wp2_with fail
  go_ret2
  exact done_of hd ho





end
end Go.Proofs.Ytejkhnphplpkeaa

/-
  Layer 3: the one way of all accesses.
-/
namespace Go.Proofs.Ytejkhnphplpkeaa
open Go.ChangeShapes Go.WideShapes Go.ChangeAt Go.RowKit
set_option linter.unusedVariables false

section
variable {w w' w'' : World} {b g tb : Nat} {tv mv tv' mv' : Value} {T : Tr} {m m' : Mm}

theorem int64_info : ∃ i0, Try.prog.info? 2 = some i0 ∧ i0.zero = some (.int .i64 0) ∧ i0.size = 1 ∧ i0.bytes = 8 := by
  have := Try.info2'
  obtain ⟨i0, h1, h2⟩ := Option.map_eq_some_iff.1 this
  simp only [Prod.mk.injEq] at h2
  exact ⟨i0, h1, h2.1, h2.2.1, h2.2.2⟩

/-- Nothing is done: the trail is dry, or there is no step. -/
theorem access_none (dv : Value) (h : St w b g tb tv mv T m) (hf : Fine T) (hp : T.ph = 0 ∨ T.ph = 4) :
    Calls Try.prog 90 #[.pointer (some ⟨tb, 0, none⟩), dv] w fun e w' => e = .returned (.int .i64 0) ∧ w = w' := by
  have F := Lib.hid (freshs h hf)
  have X : Hid (fresh T = false) := by rcases hp with hp | hp <;> simp [Hid, fresh, hp]
  have h4 := h.c4
  clear h hf
  generalize fresh T = fr at *
  generalize T.ph = p at *
  obtain rfl : fr = false := X.out
  clear X
  rcases hp with rfl | rfl
  all_goals
    go_enter Try.func90, Try.ntmps90
    go_wp2_with (go_at_call 86; refine F.out.mono ?_; rintro e w' ⟨rfl, rfl⟩)
    go_ret
    exact ⟨rfl, rfl⟩
/-- Behind a fresh access the trail is dry. -/
theorem access_dry (dv : Value) (h : St w b g tb tv mv T m) (hf : Fine T) (hp : T.ph = 2 ∨ T.ph = 3) :
    Calls Try.prog 90 #[.pointer (some ⟨tb, 0, none⟩), dv] w fun e w' => e = .returned (.int .i64 0) ∧ w.setCell ⟨tb, 4, none⟩ (.int .i64 4) = w' := by
  have F := Lib.hid (freshs h hf)
  have X : Hid (fresh T = true) := by rcases hp with hp | hp <;> simp [Hid, fresh, hp]
  have h4 := h.c4
  have f4 := h.f 4
  clear h hf
  generalize fresh T = fr at *
  generalize T.ph = p at *
  obtain rfl : fr = true := X.out
  clear X
  rcases hp with rfl | rfl
  all_goals
    go_enter Try.func90, Try.ntmps90
    go_wp2_with (go_at_call 86; refine F.out.mono ?_; rintro e w' ⟨rfl, rfl⟩)
    go_ret
    exact ⟨rfl, rfl⟩
/-- It is told again. -/
theorem access_again (dv : Value) (h : St w b g tb tv mv T m) (hf : Fine T) (hp : T.ph = 1) (hl : T.place < T.told.length) :
    Calls Try.prog 90 #[.pointer (some ⟨tb, 0, none⟩), dv] w fun e w' => e = .returned (.int .i64 (nth T.told T.place)) ∧ ∃ n n', ((w.drewN n).setCell ⟨tb, 5, none⟩ (.int .i64 ((T.place + 1 : Nat) : Int))).drewN n' = w' := by
  have F := Lib.hid (fun n => freshs (h.drewN n) hf)
  have X : Hid (fresh T = false) := by simp [Hid, fresh, hp]
  have h4 := h.c4
  have h5 := h.c5
  have h1 := h.c1
  have f5 := h.f 5
  have hn := h.tr.ft
  obtain ⟨A, c, rfl⟩ := own_slice h.tr.told
  obtain ⟨tg, rfl, _, _⟩ := own_form h.tr.told (by omega)
  have hntb : ¬ tg = tb := fun he => h.nt (by simp [Value.ownBlock, he])
  have hx := own_int h.tr.told T.place hl
  rw [hp] at h4
  have P1 := fun n => ((h.drewN n).put 5 (.int .i64 ((T.place + 1 : Nat) : Int)) { T with place := T.place + 1 } rfl rfl rfl)
  have C1 : Hid (∀ n, ((w.drewN n).setCell ⟨tb, 5, none⟩ (.int .i64 ((T.place + 1 : Nat) : Int))).cell? ⟨tb, 1, none⟩ = some (.slice (some ⟨tg, 0, none⟩) T.told.length c)) := fun n => (P1 n).c1
  have C5 : Hid (∀ n, ((w.drewN n).setCell ⟨tb, 5, none⟩ (.int .i64 ((T.place + 1 : Nat) : Int))).cell? ⟨tb, 5, none⟩ = some (.int .i64 ((T.place + 1 : Nat) : Int))) := fun n => (P1 n).c5
  have CX : Hid (∀ n, ((w.drewN n).setCell ⟨tb, 5, none⟩ (.int .i64 ((T.place + 1 : Nat) : Int))).cell? ⟨tg, T.place, none⟩ = some (.int .i64 (nth T.told T.place))) := fun n => own_int (P1 n).tr.told T.place hl
  clear h hf hp P1
  have hq : ((T.place : Int) == (T.told.length : Int)) = false := beq_eq_false_iff_ne.2 (by omega)
  generalize fresh T = fr at *
  obtain rfl : fr = false := X.out
  clear X
  generalize nth T.told T.place = x at *
  generalize T.told.length = n at *
  generalize T.place = k at *
  go_enter Try.func90, Try.ntmps90
  go_upto_region 5 with (go_at_call 86; refine (F.out 0).mono ?_; rintro e w' ⟨rfl, rfl⟩)
  go_quiet (fail)
  go_upto_region 13 with (fail)
  rw [show (k : Int) + 1 = ((k + 1 : Nat) : Int) from by omega]
  have c1 := C1.out nq
  have c5 := C5.out nq
  have cx := CX.out nq
  clear h1 h4 h5 f5 hx
  have FIN : Hid (∀ n', ∃ n n'', ((w.drewN n).setCell ⟨tb, 5, none⟩ (.int .i64 ((k + 1 : Nat) : Int))).drewN n'' = ((w.drewN nq).setCell ⟨tb, 5, none⟩ (.int .i64 ((k + 1 : Nat) : Int))).drewN n') := fun n' => ⟨_, _, rfl⟩
  generalize (w.drewN nq).setCell ⟨tb, 5, none⟩ (.int .i64 ((k + 1 : Nat) : Int)) = w1 at *
  rw [show ((k + 1 : Nat) : Int) = (k : Int) + 1 from by omega] at c5
  have s1 : IntKind.i64.wrap (k : Int) = k := IntWalk.i64_in _ (by omega)
  have s2 : (0 : Int) ≤ (k : Int) := by omega
  have s3 : (k : Int) < (n : Int) := by omega
  have s4 : (k : Int).toNat = k := by omega
  go_quiet (fail)
  go_wp2_with fail
  go_ret
  exact ⟨rfl, FIN.out _⟩

/-- Behind a closure: the memory has turned, and the trail has not. -/
theorem St.done {n : Nat} (h : St w b g tb tv mv T m) (hm : MemAt w' b g m'.cs m'.cnt) (ho : Only (CTwo b g) (w.drewN n) w') : St w' b g tb tv mv T m' ∧ Moved w b g tb tv mv w' tv mv := by
  have n1 : ¬ CTwo b g tb := fun hn => hn.elim h.nb h.ng
  have n2 : ∀ k, tv.ownBlock = some k → ¬ CTwo b g k := fun k hk hn => by
    rcases hn with rfl | rfl
    · exact h.tb_ hk
    · exact h.apart hk
  have n3 : ∀ k, mv.ownBlock = some k → ¬ CTwo b g k := fun k hk hn => by
    rcases hn with rfl | rfl
    · exact h.mb hk
    · exact h.mg hk
  have h' := h.drewN n
  refine ⟨⟨h'.tr.only ho n1 n2 n3, hm, h.apart⟩, ⟨⟨ho.os, ho.tape, ho.output, ho.size, fun k hk hn => ?_⟩, fun _ h => .inl h, fun _ h => .inl h⟩⟩
  exact ho.block k hk (fun ht => hn (ht.elim .inl (fun h => .inr (.inl h))))

/-- A wait that goes on. -/
theorem access_waits (F : FuncId) (caps : Array Value) (hcf : ∀ w, (callFunc F caps).run Try.prog w = .ok (.enter F caps) w) (x : Int) (hdo : ∀ n, Calls Try.prog F caps (w.drewN n) (Done (w.drewN n) b g x false m')) (h : St w b g tb tv mv T m) (hf : Fine T) (hp : T.ph = 1) (hl : T.place = T.told.length) :
    Calls Try.prog 90 #[.pointer (some ⟨tb, 0, none⟩), .func (.func F) #[] caps] w (Goes w b g tb tv mv (.int .i64 0) { T with ph := 3 } m') := by
  have FR := Lib.hid (freshs (h.drewN 0) hf)
  have X : Hid (fresh T = false) := by simp [Hid, fresh, hp]
  have D := Lib.hid hdo
  have H := Lib.hid h
  have HP := Lib.hid hp
  have h4 := h.c4
  have h5 := h.c5
  have h1 := h.c1
  have f4 := h.f 4
  rw [hp] at h4
  rw [hl] at h5
  obtain ⟨A, c, rfl⟩ := own_slice h.tr.told
  clear hp hl h hf hdo
  have hnot : ∀ (x : Bool) (w : World), (Op.unary .not (.bool x)).run Try.prog w = .ok (.bool (!x)) w := fun _ _ => rfl
  generalize fresh T = fr at *
  obtain rfl : fr = false := X.out
  clear X
  have hq : ((T.told.length : Int) == (T.told.length : Int)) = true := beq_iff_eq.2 rfl
  generalize T.told.length = n at *
  go_enter Try.func90, Try.ntmps90
  go_upto_region 5 with (go_at_call 86; refine FR.out.mono ?_; rintro e w' ⟨rfl, rfl⟩)
  go_quiet (fail)
  go_wp2_with fail
  refine (D.out nq).mono ?_
  rintro e w' ⟨rfl, hd, ho⟩
  obtain ⟨s1, m1⟩ := H.out.done hd ho
  have f4' := s1.f 4
  have c4' := s1.c4
  have S1 := Lib.hid s1
  have M1 := Lib.hid m1
  clear s1 m1 hd ho h1 h4 h5 f4
  go_wp2_with fail
  go_ret
  exact ⟨rfl, _, _, S1.out.put 4 _ { T with ph := 3 } rfl rfl rfl, M1.out.trans (St.moved ..)⟩

/-- Behind an append to what was told, ahead of the store. -/
theorem St.appended {o : Obj} (h : St w b g tb tv mv T m) (hg : (w.alloc o).grownBy w' tv.ownBlock) :
    Whole w' tb 102 #[.pointer (some ⟨b, 0, none⟩), tv, mv, .bool T.over, .int .i64 T.ph, .int .i64 T.place, .int .i64 T.time] :=
  (h.tr.top.alloc o).grown hg (fun he => h.nt he.symm)
/-- Behind the store. -/
theorem St.append {o : Obj} {x : Int} (h : St w b g tb tv mv T m) (hg : (w.alloc o).grownBy w' tv.ownBlock)
    (hown : w'.ownsRow 0 2 1 tv' (T.told.length + 1) (T.told.map (Value.int .i64) ++ [.int .i64 x])) (hat : tv'.ownBlock = tv.ownBlock ∨ tv'.ownBlock = some (w.alloc o).heap.size) (hl : T.told.length + 1 ≤ 60000) :
    St (w'.setCell ⟨tb, 1, none⟩ tv') b g tb tv' mv { T with told := T.told ++ [x] } m ∧ Moved w b g tb tv mv (w'.setCell ⟨tb, 1, none⟩ tv') tv' mv := by
  have ho : Only (fun k => tv.ownBlock = some k) w w' := ((Only.refl _ w).alloc o).grown hg (fun k hk => .inl hk)
  have htop := h.appended hg
  have hne : tv'.ownBlock ≠ some tb := own_apart hown htop (by decide)
  have hsz : (w.alloc o).heap.size = w.heap.size + 1 := by simp
  have h1 : ∀ k, k < w.heap.size → tv'.ownBlock = some k → tv.ownBlock = some k := by
    intro k hk he
    rcases hat with ha | ha
    · rw [← ha]; exact he
    · rw [ha, hsz] at he; injection he with he; omega
  refine ⟨⟨⟨?_, ?_, ?_, by simpa using hl, h.tr.fm⟩, ?_, ?_⟩, ⟨?_, ?_, fun _ h => .inl h⟩⟩
  · exact htop.put 1 tv'
  · have := own_far (p := ⟨tb, 1, none⟩) hown hne tv'
    simpa using this
  · refine own_far (p := ⟨tb, 1, none⟩) (own_only h.tr.marks ho (fun k hk he => ?_)) h.nm tv'
    exact own_rows h.tr.marks h.tr.told (by decide) k hk he
  · have hm := h.mem.only ho h.tb_ h.apart
    exact ⟨hm.top.far (Ne.symm h.nb) _, hm.row.far (Ne.symm h.ng) _, hm.few, hm.lo, hm.hi⟩
  · intro he
    exact h.apart (h1 g h.mem.row.lt he)
  · have ho2 : Only (All b g tb tv mv) w w' := ho.mono (fun k _ hk => .inr (.inr (.inr (.inl hk))))
    exact ho2.setCell (.inl (.inr (.inr (.inl rfl)))) _
  · intro k hk
    by_cases hlt : k < w.heap.size
    · exact .inl (h1 k hlt hk)
    · exact .inr (by omega)

set_option maxHeartbeats 1000000 in
/-- An access that is done. -/
theorem access_does (F : FuncId) (caps : Array Value) (hcf : ∀ w, (callFunc F caps).run Try.prog w = .ok (.enter F caps) w) (x : Int) (hdo : ∀ n, Calls Try.prog F caps (w.drewN n) (Done (w.drewN n) b g x true m')) (h : St w b g tb tv mv T m) (hf : Fine T) (hp : T.ph = 1) (hl : T.place = T.told.length) (hr : T.told.length + 1 ≤ 60000) :
    Calls Try.prog 90 #[.pointer (some ⟨tb, 0, none⟩), .func (.func F) #[] caps] w (Goes w b g tb tv mv (.int .i64 x) { T with told := T.told ++ [x], ph := 2, place := T.place + 1 } m') := by
  obtain ⟨i0, hi0, hz0, hz1, hz2⟩ := int64_info
  have FR := Lib.hid (freshs (h.drewN 0) hf)
  have X : Hid (fresh T = false) := by simp [Hid, fresh, hp]
  have D := Lib.hid hdo
  have H := Lib.hid h
  have HP := Lib.hid hp
  have HL := Lib.hid hl
  have h4 := h.c4
  have h5 := h.c5
  have h1 := h.c1
  rw [hp] at h4
  rw [hl] at h5
  obtain ⟨A, c, rfl⟩ := own_slice h.tr.told
  clear hp hl h hf hdo
  have hnot : ∀ (x : Bool) (w : World), (Op.unary .not (.bool x)).run Try.prog w = .ok (.bool (!x)) w := fun _ _ => rfl
  generalize fresh T = fr at *
  obtain rfl : fr = false := X.out
  clear X
  have hq : ((T.told.length : Int) == (T.told.length : Int)) = true := beq_iff_eq.2 rfl
  generalize hn : T.told.length = n at *
  have HN := Lib.hid hn
  clear hn
  go_enter Try.func90, Try.ntmps90
  go_upto_region 5 with (go_at_call 86; refine FR.out.mono ?_; rintro e w' ⟨rfl, rfl⟩)
  go_quiet (fail)
  go_wp2_with fail
  refine (D.out nq).mono ?_
  rintro e w1 ⟨rfl, hd, ho⟩
  obtain ⟨s1, m1⟩ := H.out.done hd ho
  have c1 := s1.c1
  have S1 := Lib.hid s1
  have M1 := Lib.hid m1
  have O1 := Lib.hid s1.tr.told
  clear s1 m1 hd ho h1 h4 h5
  rw [HN.out] at O1
  set_option maxRecDepth 100000 in
  go_upto_region 11 with (at_builtin; refine wpList_append_own_at _ rfl (.tmp 41) (.tmp 43) _ rfl 0 2 i0 _ 1 8 Try.underlying27 hi0 hz0 hz1 hz2 rfl (by omega) _ n _ rfl (O1.out.alloc _) ⟨w1.heap.size, 0, none⟩ 1 1 [.int .i64 x] rfl rfl (cell_one_new _ _ _) (by simp [Value.oneCell']) (by simp only [maxLen]; omega) (by omega) (by omega) ?_; intro v' w2 hown' hg' _hnil hat; obtain ⟨A', c', rfl⟩ := own_slice hown'; have HA : Hid ((Value.slice A' (n + 1) c').ownBlock = (Value.slice A n c).ownBlock ∨ (Value.slice A' (n + 1) c').ownBlock = some (w1.alloc (.cells #[.int .i64 x] 2)).heap.size) := hat; have HG : Hid ((w1.alloc (.cells #[.int .i64 x] 2)).grownBy w2 (Value.slice A n c).ownBlock) := hg'; clear hat; have c1' : w2.cell? ⟨tb, 1, none⟩ = some (.slice A n c) := (S1.out.appended hg').cell 1; have f1' : w2.frozen? ⟨tb, 1, none⟩ = false := (S1.out.appended hg').frozen 1; have HO := Lib.hid hown'; clear hg' hown' _hnil)
  obtain ⟨s2, m2⟩ := S1.out.append HG.out (by rw [HN.out]; exact HO.out) HA.out (by rw [HN.out]; exact hr)
  have s3 := s2.put 4 (.int .i64 2) { T with told := T.told ++ [x], ph := 2 } rfl rfl rfl
  have s4 := s3.put 5 (.int .i64 ((n + 1 : Nat) : Int)) { T with told := T.told ++ [x], ph := 2, place := T.place + 1 } rfl rfl (by rw [HL.out]; rfl)
  have m4 := M1.out.trans (m2.trans ((St.moved _ b g tb _ mv 4 (.int .i64 2)).trans (St.moved _ b g tb _ mv 5 (.int .i64 ((n + 1 : Nat) : Int)))))
  have f4 := s2.f 4
  have f5 := s3.f 5
  have c4 := s2.c4
  have c5 : ((w2.setCell ⟨tb, 1, none⟩ (Value.slice A' (n + 1) c')).setCell ⟨tb, 4, none⟩ (.int .i64 2)).cell? ⟨tb, 5, none⟩ = some (.int .i64 (n : Int)) := by rw [s3.c5]; simp only; rw [HL.out]
  obtain ⟨tg, rfl, _, _⟩ := own_form HO.out (by omega)
  have d1 : Hid (World.cell? (((w2.setCell ⟨tb, 1, none⟩ (Value.slice (some ⟨tg, 0, none⟩) (n + 1) c')).setCell ⟨tb, 4, none⟩ (.int .i64 2)).setCell ⟨tb, 5, none⟩ (.int .i64 ((n + 1 : Nat) : Int))) ⟨tb, 1, none⟩ = some (.slice (some ⟨tg, 0, none⟩) (n + 1) c')) := s4.c1
  have d5 : Hid (World.cell? (((w2.setCell ⟨tb, 1, none⟩ (Value.slice (some ⟨tg, 0, none⟩) (n + 1) c')).setCell ⟨tb, 4, none⟩ (.int .i64 2)).setCell ⟨tb, 5, none⟩ (.int .i64 ((n + 1 : Nat) : Int))) ⟨tb, 5, none⟩ = some (.int .i64 ((n + 1 : Nat) : Int))) := by
    unfold Hid; rw [s4.c5]; simp only; rw [HL.out]
  have dx : Hid (World.cell? (((w2.setCell ⟨tb, 1, none⟩ (Value.slice (some ⟨tg, 0, none⟩) (n + 1) c')).setCell ⟨tb, 4, none⟩ (.int .i64 2)).setCell ⟨tb, 5, none⟩ (.int .i64 ((n + 1 : Nat) : Int))) ⟨tg, n, none⟩ = some (.int .i64 x)) := by
    have ht := s4.tr.told
    have hlen : (T.told ++ [x]).length = n + 1 := by rw [List.length_append, HN.out]; rfl
    simp only at ht
    rw [← hlen] at ht
    have := own_int ht n (by omega)
    rw [← hlen]
    rw [Hid, this]
    simp [nth, ← HN.out]
  have S4 := Lib.hid s4
  have M4 := Lib.hid m4
  clear s2 m2 s3 s4 m4 S1 M1 O1 HO HG HA c1 c1' f1' H D FR
  generalize (w2.setCell ⟨tb, 1, none⟩ (Value.slice (some ⟨tg, 0, none⟩) (n + 1) c')) = w3 at *
  go_upto_region 13 with (fail)
  rw [show (n : Int) + 1 = ((n + 1 : Nat) : Int) from by omega]
  have e1 := d1.out
  have e5 := d5.out
  have ex := dx.out
  clear f4 f5 c4 c5 d1 d5 dx
  generalize (w3.setCell ⟨tb, 4, none⟩ (.int .i64 2)).setCell ⟨tb, 5, none⟩ (.int .i64 ((n + 1 : Nat) : Int)) = w4 at *
  rw [show ((n + 1 : Nat) : Int) = (n : Int) + 1 from by omega] at e5
  have s1 : IntKind.i64.wrap (n : Int) = n := IntWalk.i64_in _ (by omega)
  have s2 : (0 : Int) ≤ (n : Int) := by omega
  have s3 : (n : Int) < ((n + 1 : Nat) : Int) := by omega
  have s3' : (n : Int) < (n : Int) + 1 := by omega
  have s4 : (n : Int).toNat = n := by omega
  go_quiet (fail)
  go_wp2_with fail
  go_ret
  exact ⟨rfl, _, _, S4.out.drewN _, M4.out.trans (Moved.still (below_drewN (Below.refl _ _) _) ..)⟩

/-- Whatever the trail's step is at. -/
theorem access_any (F : FuncId) (caps : Array Value) (hcf : ∀ w, (callFunc F caps).run Try.prog w = .ok (.enter F caps) w) (k i v old : Int) (h : St w b g tb tv mv T m) (hf : Fine T) (hr : T.told.length + 1 ≤ 60000)
    (hdo : T.ph = 1 → ∀ n, Calls Try.prog F caps (w.drewN n) (Done (w.drewN n) b g (toldOf k i old m) (okOf k i old m) (memOf k i v old m))) :
    Calls Try.prog 90 #[.pointer (some ⟨tb, 0, none⟩), .func (.func F) #[] caps] w (Goes w b g tb tv mv (.int .i64 (accV k i old T m)) (accT k i old T m) (accM k i v old T m)) := by
  by_cases hp : T.ph = 1
  · by_cases hl : T.place = T.told.length
    · cases hok : okOf k i old m with
      | true =>
        have := access_does F caps hcf _ (by have := hdo hp; rw [hok] at this; exact this) h hf hp hl hr
        simpa [accV, accT, accM, hp, hl, hok] using this
      | false =>
        have := access_waits F caps hcf _ (by have := hdo hp; rw [hok] at this; exact this) h hf hp hl
        simpa [accV, accT, accM, hp, hl, hok] using this
    · have hlt : T.place < T.told.length := by have := hf.place hp; omega
      refine (access_again _ h hf hp hlt).mono ?_
      rintro e w' ⟨rfl, n, n', rfl⟩
      refine ⟨by simp [accV, hp, hl], tv, mv, ?_, ?_⟩
      · have h1 := ((h.drewN n).put 5 (.int .i64 ((T.place + 1 : Nat) : Int)) { T with place := T.place + 1 } rfl rfl rfl).drewN n'
        have e1 : accT k i old T m = { T with place := T.place + 1 } := by simp [accT, hp, hl]
        have e2 : accM k i v old T m = m := by simp [accM, hl]
        rw [e1, e2]
        exact h1
      · exact (Moved.still (below_drewN (Below.refl _ _) n) ..).trans ((St.moved ..).trans (Moved.still (below_drewN (Below.refl _ _) n') ..))
  · by_cases hq : T.ph = 2 ∨ T.ph = 3
    · refine (access_dry _ h hf hq).mono ?_
      rintro e w' ⟨rfl, rfl⟩
      have e1 : accT k i old T m = { T with ph := 4 } := by simp [accT, hp, hq]
      have e2 : accM k i v old T m = m := by simp [accM, hp]
      have e3 : accV k i old T m = 0 := by simp [accV, hp]
      rw [e1, e2, e3]
      exact ⟨rfl, _, _, h.put 4 _ { T with ph := 4 } rfl rfl rfl, St.moved ..⟩
    · have hz : T.ph = 0 ∨ T.ph = 4 := by have := hf.ph; omega
      refine (access_none _ h hf hz).mono ?_
      rintro e w' ⟨rfl, rfl⟩
      have e1 : accT k i old T m = T := by simp [accT, hp, hq]
      have e2 : accM k i v old T m = m := by simp [accM, hp]
      have e3 : accV k i old T m = 0 := by simp [accV, hp]
      rw [e1, e2, e3]
      exact ⟨rfl, _, _, h, Moved.refl ..⟩
end
end Go.Proofs.Ytejkhnphplpkeaa

/-
  Layer 3: the accesses of a trail, and its marks.
-/
namespace Go.Proofs.Ytejkhnphplpkeaa
open Go.ChangeShapes Go.WideShapes Go.ChangeAt Go.RowKit
set_option linter.unusedVariables false

section
variable {w w' w'' : World} {b g tb : Nat} {tv mv tv' mv' : Value} {T : Tr} {m m' : Mm}

theorem toTwo_new (h : St w b g tb tv mv T m) {k : Nat} (hk : w.heap.size ≤ k) : ¬ CTwo b g k := by
  have h1 := h.mem.top.lt
  have h2 := h.mem.row.lt
  rintro (h3 | h3) <;> omega
theorem two_tb (h : St w b g tb tv mv T m) : ¬ CTwo b g tb := fun hn => hn.elim h.nb h.ng
theorem box_cell (w : World) (o : Obj) (p : Addr) (u : Value) (h : w.cell? p = some u) : (w.alloc o).cell? p = some u :=
  (((Below.refl w.heap.size w).alloc (Nat.le_refl _) o).cell (p := p) (World.block_lt_of_cell? w p h)).trans h
theorem box_new (w : World) (u : Value) (t : TypeId) (k : Nat) (hk : k = w.heap.size) : (w.alloc (.cells #[u] t)).cell? ⟨k, 0, none⟩ = some u := by subst hk; simp
theorem Goes.still (hb : Below w.heap.size w w') {v : Value} {T' : Tr} {e : Ending} (h : Goes w' b g tb tv mv v T' m' e w'') : Goes w b g tb tv mv v T' m' e w'' := by
  obtain ⟨he, tv', mv', h1, h2⟩ := h
  exact ⟨he, tv', mv', h1, (Moved.still hb ..).trans h2⟩

set_option maxRecDepth 10000 in
set_option maxHeartbeats 1000000 in
theorem trLoad (i : Int) (h : St w b g tb tv mv T m) (hf : Fine T) (hr : T.told.length + 1 ≤ 60000) (hu : m.cnt + 1 ≤ 4611686018427387904) :
    Calls Try.prog 84 #[.pointer (some ⟨tb, 0, none⟩), .int .i64 i] w (Goes w b g tb tv mv (.int .i64 (accV 0 i 0 T m)) (accT 0 i 0 T m) (accM 0 i 0 0 T m)) := by
  have hb : Below w.heap.size w ((w.alloc (.cells #[.pointer (some ⟨tb, 0, none⟩)] 63)).alloc (.cells #[.int .i64 i] 3)) := by
    refine ((Below.refl _ _).alloc (by first | exact Nat.le_refl _ | (simp only [World.size_alloc]; omega)) _).alloc (by first | exact Nat.le_refl _ | (simp only [World.size_alloc]; omega)) _
  have h' := h.still hb
  have k0 : ((w.alloc (.cells #[.pointer (some ⟨tb, 0, none⟩)] 63)).alloc (.cells #[.int .i64 i] 3)).cell? ⟨w.heap.size, 0, none⟩ = some (.pointer (some ⟨tb, 0, none⟩)) := box_cell _ (.cells #[.int .i64 i] 3) _ _ (box_new w (.pointer (some ⟨tb, 0, none⟩)) 63 (w.heap.size) rfl)
  have k1 : ((w.alloc (.cells #[.pointer (some ⟨tb, 0, none⟩)] 63)).alloc (.cells #[.int .i64 i] 3)).cell? ⟨w.heap.size + 1, 0, none⟩ = some (.int .i64 i) := box_new (w.alloc (.cells #[.pointer (some ⟨tb, 0, none⟩)] 63)) (.int .i64 i) 3 (w.heap.size + 1) (by simp only [World.size_alloc])
  have A : Hid (Calls Try.prog 90 #[.pointer (some ⟨tb, 0, none⟩), .func (.func 91) #[] #[.pointer (some ⟨w.heap.size, 0, none⟩), .pointer (some ⟨w.heap.size + 1, 0, none⟩)]] ((w.alloc (.cells #[.pointer (some ⟨tb, 0, none⟩)] 63)).alloc (.cells #[.int .i64 i] 3)) (Goes ((w.alloc (.cells #[.pointer (some ⟨tb, 0, none⟩)] 63)).alloc (.cells #[.int .i64 i] 3)) b g tb tv mv (.int .i64 (accV 0 i 0 T m)) (accT 0 i 0 T m) (accM 0 i 0 0 T m))) := by
    refine access_any _ _ (fun _ => rfl) 0 i 0 0 h' hf hr (fun hp n => ?_)
    exact load_does i k0 k1 h'.c0 (toTwo_new h (by omega)) (toTwo_new h (by omega)) (two_tb h') (h'.drewN n).mem hu
  have HB := Lib.hid hb
  clear h' h hf hr hu hb
  clear k1
  have hmf : ∀ (fn : Fn) (first cap : Array Value) (w : World), (Instr.makeFunc fn first cap).run Try.prog w = .ok (.func fn first cap) w := fun _ _ _ _ => rfl
  generalize accV 0 i 0 T m = x at *
  generalize accT 0 i 0 T m = T' at *
  generalize accM 0 i 0 0 T m = m' at *
  go_enter Try.func84, Try.ntmps84
  go_wp2_with (go_at_call 90; refine A.out.mono ?_; rintro e w1 ⟨rfl, tv1, mv1, s1, m1⟩)
  go_ret
  refine Goes.still HB.out ⟨rfl, tv1, mv1, s1, m1⟩





end
end Go.Proofs.Ytejkhnphplpkeaa

/-
  Layer 3: a step, over whatever task keeps a contract.
-/
namespace Go.Proofs.Ytejkhnphplpkeaa
open Go.ChangeShapes Go.WideShapes Go.ChangeAt Go.RowKit
set_option linter.unusedVariables false

/-- The deferred closure finds no panic. -/
theorem catch_idle (w : World) : CallsD Try.prog 70 #[] .returning w fun e u' w' => e = .returned (.tuple #[]) ∧ u' = .returning ∧ w' = w := by
  refine callsD_of_wpS Try.func70 rfl fun c₀ cs hu => ?_
  apply wpS_region
  simp [wpOpsS, go_sem, recoverD, hu, Try.ntmps70, bodyPostS, results, Try.results70]
  cases c₀
  simp_all

/-- Run: the task is called once. -/
theorem run_any {w : World} {tb : Nat} (F : FuncId) (first : Array Value) (Q : World → Prop) (hcf : ∀ w, (callFunc F (first.push (.pointer (some ⟨tb, 0, none⟩)))).run Try.prog w = .ok (.enter F (first.push (.pointer (some ⟨tb, 0, none⟩)))) w)
    (h : Calls Try.prog F (first.push (.pointer (some ⟨tb, 0, none⟩))) w fun e w' => e = .returned (.tuple #[]) ∧ Q w') :
    Calls Try.prog 51 #[.pointer (some ⟨tb, 0, none⟩), .func (.func F) first #[]] w fun e w' => e = .returned (.tuple #[]) ∧ Q w' := by
  have H := Lib.hid h
  clear h
  go_enter_defers Try.func51, Try.ntmps51
  go_wp2_with fail
  refine H.out.mono ?_
  rintro e w1 ⟨rfl, hq⟩
  have HQ := Lib.hid hq
  clear hq
  go_wp2_with fail
  refine leaves_cons (f := 70) (args := #[]) (by simp) (by simp [go_sem]) ?_
  refine (catch_idle _).mono ?_
  rintro e u' w'' ⟨rfl, rfl, rfl⟩
  simp [Leaves, settle, results, Try.results51, go_sem]
  exact HQ.out

section
variable {w w' w'' : World} {b g tb : Nat} {tv mv tv' mv' : Value} {T : Tr} {m m' : Mm}

/-- Of a task that is over nothing is run. -/
theorem step_over (time : Int) (task : Value) (h : St w b g tb tv mv T m) (ho : T.over = true) :
    Calls Try.prog 32 #[.pointer (some ⟨tb, 0, none⟩), .int .i64 time, task] w fun e w' => e = .returned (.bool true) ∧ w = w' := by
  have h3 := h.c3
  rw [ho] at h3
  clear h
  go_enter Try.func32, Try.ntmps32
  go_wp2_with fail
  go_ret
  exact ⟨rfl, rfl⟩

/-- Where a step begins. -/
def beganAt (w : World) (tb : Nat) (time : Int) : World := ((w.setCell ⟨tb, 4, none⟩ (.int .i64 1)).setCell ⟨tb, 5, none⟩ (.int .i64 0)).setCell ⟨tb, 6, none⟩ (.int .i64 time)
theorem St.began (h : St w b g tb tv mv T m) (time : Int) : St (beganAt w tb time) b g tb tv mv (began time T) m :=
  ((h.put 4 (.int .i64 1) { T with ph := 1 } rfl rfl rfl).put 5 (.int .i64 0) { T with ph := 1, place := 0 } rfl rfl rfl).put 6 (.int .i64 time) (Go.Proofs.Ytejkhnphplpkeaa.began time T) rfl rfl rfl
theorem moved_began (w : World) (b g tb : Nat) (tv mv : Value) (time : Int) : Moved w b g tb tv mv (beganAt w tb time) tv mv :=
  (St.moved ..).trans ((St.moved ..).trans (St.moved ..))
/-- Where it ends. -/
def endedAt (w : World) (tb : Nat) (o : Bool) : World := (w.setCell ⟨tb, 3, none⟩ (.bool o)).setCell ⟨tb, 4, none⟩ (.int .i64 0)
theorem St.ended (h : St w b g tb tv mv T m) : St (endedAt w tb (!dry T)) b g tb tv mv (ended T) m :=
  (h.put 3 (.bool (!dry T)) { T with over := !dry T } rfl rfl rfl).put 4 (.int .i64 0) (Go.Proofs.Ytejkhnphplpkeaa.ended T) rfl rfl rfl
theorem moved_ended (w : World) (b g tb : Nat) (tv mv : Value) (o : Bool) : Moved w b g tb tv mv (endedAt w tb o) tv mv := (St.moved ..).trans (St.moved ..)

set_option maxHeartbeats 1000000 in
theorem step_runs (time : Int) (F : FuncId) (first : Array Value) (P : World → Tr → Mm → Value → Value → Prop)
    (hcf : ∀ w, (callFunc F (first.push (.pointer (some ⟨tb, 0, none⟩)))).run Try.prog w = .ok (.enter F (first.push (.pointer (some ⟨tb, 0, none⟩)))) w)
    (h : St w b g tb tv mv T m) (ho : T.over = false) (hp : T.ph = 0)
    (hrun : Calls Try.prog F (first.push (.pointer (some ⟨tb, 0, none⟩))) (beganAt w tb time) fun e w' => e = .returned (.tuple #[]) ∧ ∃ T' m' tv' mv', St w' b g tb tv' mv' T' m' ∧ Fine T' ∧ P w' T' m' tv' mv') :
    Calls Try.prog 32 #[.pointer (some ⟨tb, 0, none⟩), .int .i64 time, .func (.func F) first #[]] w fun e w'' =>
      ∃ w1 T' m' tv' mv', e = .returned (.bool (!dry T')) ∧ St w1 b g tb tv' mv' T' m' ∧ Fine T' ∧ P w1 T' m' tv' mv' ∧ endedAt w1 tb (!dry T') = w'' := by
  have R := Lib.hid (run_any (tb := tb) F first _ hcf hrun)
  have h3 := h.c3
  rw [ho] at h3
  have h4 := h.c4
  rw [hp] at h4
  have f4 := h.f 4
  have h5 := h.c5
  have h6 := h.c6
  have f5 := h.f 5
  have f6 := h.f 6
  have hnot : ∀ (x : Bool) (w : World), (Op.unary .not (.bool x)).run Try.prog w = .ok (.bool (!x)) w := fun _ _ => rfl
  unfold beganAt at R
  clear h hrun hcf
  go_enter Try.func32, Try.ntmps32
  go_wp2_with (go_at_call 51; refine R.out.mono ?_; rintro e w1 ⟨rfl, T', m', tv', mv', s1, f1, p1⟩)
  refine (drys s1 f1).mono ?_
  rintro e w2 ⟨rfl, rfl⟩
  have g3 := s1.c3
  have g4 := s1.c4
  have q3 := s1.f 3
  have q4 := s1.f 4
  have FIN : Hid (∃ w2 T'' m' tv' mv', Ending.returned (.bool (!dry T')) = .returned (.bool (!dry T'')) ∧ St w2 b g tb tv' mv' T'' m' ∧ Fine T'' ∧ P w2 T'' m' tv' mv' ∧ endedAt w2 tb (!dry T'') = endedAt w1 tb (!dry T')) := ⟨w1, T', m', tv', mv', rfl, s1, f1, p1, rfl⟩
  clear s1 f1 p1 R h3 h4 h5 h6 f4 f5 f6 ho hp
  go_wp2_with fail
  go_ret
  exact FIN.out
end
end Go.Proofs.Ytejkhnphplpkeaa

/-
  Layer 3: small laws on trails, for whatever task: lengths, counts, other blocks, new memories and trails; and who has which block.
-/
namespace Go.Proofs.Ytejkhnphplpkeaa
open Go.ChangeShapes Go.WideShapes Go.ChangeAt Go.RowKit
set_option linter.unusedVariables false

section
variable {w w' w'' : World} {b g tb : Nat} {tv mv tv' mv' : Value} {T : Tr} {m m' : Mm}
theorem accT_len (k i old : Int) (T : Tr) (m : Mm) : (accT k i old T m).told.length ≤ T.told.length + 1 ∧ (accT k i old T m).marks = T.marks := by
  unfold accT
  repeat' split
  all_goals simp
theorem memOf_cnt (k i v old : Int) (m : Mm) : (memOf k i v old m).cnt ≤ m.cnt + 1 := by
  unfold memOf
  split
  · simp
  · omega
theorem accM_cnt (k i v old : Int) (T : Tr) (m : Mm) : (accM k i v old T m).cnt ≤ m.cnt + 1 := by
  unfold accM
  have := memOf_cnt k i v old m
  split <;> omega
theorem accT_fine {k i old : Int} (hf : Fine T) : Fine (accT k i old T m) := by
  have h1 := hf.ph
  have h2 := hf.place
  have h3 := hf.one
  unfold accT
  split
  · rename_i hp
    have hov := h3 (by omega)
    split
    · split
      · exact ⟨by simp, fun h => by simp at h, fun _ => hov⟩
      · exact ⟨by simp, fun h => by simp at h, fun _ => hov⟩
    · refine ⟨by simp [hp], fun _ => ?_, fun _ => hov⟩
      have := h2 hp
      simp only
      omega
  · split
    · rename_i hq
      exact ⟨by simp, fun h => by simp at h, fun _ => h3 (by omega)⟩
    · exact hf
/-- A block of another type is as it was. -/
theorem not_all {k : Nat} {t : TypeId} {cs : Array Value} (h : St w b g tb tv mv T m) (hw : Whole w k t cs) (h1 : t ≠ 92) (h2 : t ≠ 2) (h3 : t ≠ 102) (h4 : t ≠ 175) : ¬ All b g tb tv mv k := by
  rintro (rfl | rfl | rfl | hk | hk)
  · exact hw.apart h.mem.top h1 rfl
  · exact hw.apart h.mem.row h2 rfl
  · exact hw.apart h.tr.top h3 rfl
  · exact own_apart h.tr.told hw (Ne.symm h2) hk
  · exact own_apart h.tr.marks hw (Ne.symm h4) hk
theorem keeps {k : Nat} {t : TypeId} {cs : Array Value} {v : Value} {T' : Tr} {e : Ending} (h : St w b g tb tv mv T m) (hw : Whole w k t cs) (h1 : t ≠ 92) (h2 : t ≠ 2) (h3 : t ≠ 102) (h4 : t ≠ 175) (hg : Goes w b g tb tv mv v T' m' e w') : Whole w' k t cs := by
  obtain ⟨_, tv', mv', _, hm⟩ := hg
  exact hw.only hm.only (not_all h hw h1 h2 h3 h4)
theorem not_all_new {w w' : World} {b g tb : Nat} {tv mv : Value} {T : Tr} {m : Mm} {k : Nat} (h : St w b g tb tv mv T m) (hk : w.heap.size ≤ k) : ¬ All b g tb tv mv k := by
  have h1 := h.mem.top.lt
  have h2 := h.mem.row.lt
  have h3 := h.tr.top.lt
  rintro (h4 | h4 | h4 | h4 | h4)
  · omega
  · omega
  · omega
  · have := h.tr.told.lt k h4; omega
  · have := h.tr.marks.lt k h4; omega
end

theorem heap_put_same (w w' : World) (p : Addr) (u : Value) (h : w'.heap[p.block]? = w.heap[p.block]?) : (w'.setCell p u).heap[p.block]? = (w.setCell p u).heap[p.block]? := by
  simp [World.setCell, Array.getElem?_modify, h]
/-- A new memory, wherever it lies. -/
theorem new_mem_ex (n : Int) (w : World) : Calls Try.prog 26 #[.int .i64 n] w fun e w' => ∃ b g, e = .returned (.pointer (some ⟨b, 0, none⟩)) ∧ MemAt w' b g (List.replicate (many n) 0) 0 ∧ w.heap.size ≤ b ∧ w.heap.size ≤ g ∧ Below w.heap.size w w' := by
  refine (new_mem n w).mono ?_
  rintro e w' ⟨rfl, h1, h2, h3⟩
  exact ⟨_, _, rfl, h1, by omega, by omega, h2⟩
/-- A new trail, wherever it lies. -/
theorem new_trail_ex {w : World} {b g : Nat} {m : Mm} (hm : MemAt w b g m.cs m.cnt) : Calls Try.prog 30 #[.pointer (some ⟨b, 0, none⟩)] w fun e w' =>
    ∃ tb, e = .returned (.pointer (some ⟨tb, 0, none⟩)) ∧ St w' b g tb (.slice none 0 0) (.slice none 0 0) newTr m ∧ w.heap.size ≤ tb ∧ Below w.heap.size w w' := by
  refine new_trail.mono ?_
  rintro e w' ⟨rfl, rfl⟩
  have hb : Below w.heap.size w (w.alloc (.cells #[.pointer (some ⟨b, 0, none⟩), .slice none 0 0, .slice none 0 0, .bool false, .int .i64 0, .int .i64 0, .int .i64 0] 102)) := (Below.refl _ _).alloc (Nat.le_refl _) _
  exact ⟨_, rfl, ⟨newTr_at w b, hm.only (Only.of_below hb (fun _ => False)) id id, by simp [Value.ownBlock]⟩, Nat.le_refl _, hb⟩
/-- New blocks are had by id. -/
def relab (ow : Nat → Nat) (n id : Nat) : Nat → Nat := fun k => if k < n then ow k else id
theorem relab_lt {ow : Nat → Nat} {n id k : Nat} (h : k < n) : relab ow n id k = ow k := by simp [relab, h]
theorem relab_ge {ow : Nat → Nat} {n id k : Nat} (h : n ≤ k) : relab ow n id k = id := by simp [relab]; omega
def upd {α : Type} (f : Nat → α) (i : Nat) (x : α) : Nat → α := fun j => if j = i then x else f j
theorem upd_same {α : Type} (f : Nat → α) (i : Nat) (x : α) : upd f i x i = x := by simp [upd]
theorem upd_other {α : Type} (f : Nat → α) {i j : Nat} (x : α) (h : j ≠ i) : upd f i x j = f j := by simp [upd, h]
end Go.Proofs.Ytejkhnphplpkeaa
