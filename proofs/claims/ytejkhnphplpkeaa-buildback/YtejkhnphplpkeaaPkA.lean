/-
  Texts of our own, one behind the other (Own, Says, Area, AreaDo, AreaJoin, AreaPart, AreaMayDo, AreaRef, AreaPure, Bag, OwnRow): what the laws' proofs rest on; each says at its head what it holds. No conditions.
-/
import Derived.WalkKit
import Derived.ProofKit
import Derived.Below
import Derived.Deep.Draws
import Derived.Laws.Rows
import Derived.Test.YtejkhnphplpkeaaRows
import Derived.OpenShut
import Derived.WalkSpells
import Derived.WalkLawsBesides
import Derived.Deep.OwnRows
import Derived.Lib.Hide
import Derived.Deep.RegionWith
import Derived.Deep.CutBlock
import Derived.Laws.ResultCell
import Derived.Maps.AppendAt
import Derived.Laws.OwnMore
import Derived.Calls
/-
  Words of our own for memory, over whatever program: a block that is known whole, and worlds that part in some blocks alone.
-/
namespace Go.Proofs.Ytejkhnphplpkeaa
open Go.RowKit

/-- Block b holds just the cells cs, of type t, and none of them is frozen. -/
def Whole (w : World) (b : Nat) (t : TypeId) (cs : Array Value) : Prop := w.heap[b]? = some (.cells cs t (0, 0))

/-- From w to w' no block that was there has turned, but for those in S. -/
structure Only (S : Nat → Prop) (w w' : World) : Prop where
  os : w'.os = w.os
  tape : w'.tape = w.tape
  output : w'.output = w.output
  size : w.heap.size ≤ w'.heap.size
  block : ∀ k, k < w.heap.size → ¬ S k → w'.heap[k]? = w.heap[k]?

section
variable {w w' w'' : World} {S S' : Nat → Prop} {b : Nat} {t : TypeId} {cs : Array Value}

theorem Only.refl (S : Nat → Prop) (w : World) : Only S w w := ⟨rfl, rfl, rfl, Nat.le_refl _, fun _ _ _ => rfl⟩
theorem Only.trans (h : Only S w w') (k : Only S w' w'') : Only S w w'' :=
  ⟨k.os.trans h.os, k.tape.trans h.tape, k.output.trans h.output, Nat.le_trans h.size k.size,
    fun i hi hn => (k.block i (Nat.lt_of_lt_of_le hi h.size) hn).trans (h.block i hi hn)⟩
theorem Only.mono (h : Only S w w') (hS : ∀ k, k < w.heap.size → S k → S' k) : Only S' w w' :=
  ⟨h.os, h.tape, h.output, h.size, fun i hi hn => h.block i hi (fun hs => hn (hS i hi hs))⟩
theorem Only.drew (h : Only S w w') : Only S w w'.drew := ⟨h.os, h.tape, h.output, h.size, h.block⟩
theorem Only.drewN (h : Only S w w') (n : Nat) : Only S w (w'.drewN n) := ⟨h.os, h.tape, h.output, h.size, h.block⟩
theorem Only.alloc (h : Only S w w') (o : Obj) : Only S w (w'.alloc o) :=
  ⟨h.os, h.tape, h.output, Nat.le_trans h.size (by simp), fun i hi hn => (Below.heap_alloc w' o i (Nat.lt_of_lt_of_le hi h.size)).trans (h.block i hi hn)⟩
theorem Only.setCell (h : Only S w w') {p : Addr} (hp : S p.block ∨ w.heap.size ≤ p.block) (u : Value) : Only S w (w'.setCell p u) :=
  ⟨h.os, h.tape, h.output, by simpa [World.setCell] using h.size, fun i hi hn => (Below.heap_setCell w' p u i (by
    rintro rfl
    rcases hp with hp | hp
    · exact hn hp
    · omega)).trans (h.block i hi hn)⟩
theorem Only.grown {row : Option Nat} (h : Only S w w') (hg : w'.grownBy w'' row) (hr : ∀ k, row = some k → S k ∨ w.heap.size ≤ k) : Only S w w'' :=
  ⟨hg.os.trans h.os, hg.tape.trans h.tape, hg.output.trans h.output, Nat.le_trans h.size hg.size,
    fun i hi hn => (hg.block i (Nat.lt_of_lt_of_le hi h.size) (fun e => by
      rcases hr i e.symm with hs | hs
      · exact hn hs
      · omega)).trans (h.block i hi hn)⟩
theorem Only.below {B : Nat} (h : Only S w w') (hS : ∀ k, S k → B ≤ k) (hB : B ≤ w.heap.size) : Below B w w' :=
  ⟨h.os, h.tape, h.output, h.size, fun k hk => h.block k (by omega) (fun hs => by have := hS k hs; omega)⟩
theorem Only.of_below (h : Below w.heap.size w w') (S : Nat → Prop) : Only S w w' := ⟨h.os, h.tape, h.output, h.size, fun k hk _ => h.block k hk⟩
theorem Only.cell (h : Only S w w') {p : Addr} (hp : p.block < w.heap.size) (hn : ¬ S p.block) : w'.cell? p = w.cell? p := World.cell?_of_block (w := w) (h.block p.block hp hn)
theorem Only.frozen (h : Only S w w') {p : Addr} (hp : p.block < w.heap.size) (hn : ¬ S p.block) : w'.frozen? p = w.frozen? p := World.frozen?_of_block (w := w) (h.block p.block hp hn)

theorem Whole.lt (h : Whole w b t cs) : b < w.heap.size := by
  rcases Nat.lt_or_ge b w.heap.size with hlt | hge
  · exact hlt
  · unfold Whole at h; rw [Array.getElem?_eq_none hge] at h; cases h
theorem Whole.cell (h : Whole w b t cs) (i : Nat) : w.cell? ⟨b, i, none⟩ = cs[i]? := cell_of_row w b i cs t (0, 0) h
theorem Whole.frozen (h : Whole w b t cs) (i : Nat) : w.frozen? ⟨b, i, none⟩ = false := by
  unfold Whole at h
  simp [World.frozen?, h]
theorem Whole.new (w : World) (t : TypeId) (cs : Array Value) : Whole (w.alloc (.cells cs t)) w.heap.size t cs := heap_alloc_new w _
theorem Whole.drew (h : Whole w b t cs) : Whole w.drew b t cs := h
theorem Whole.drewN (h : Whole w b t cs) (n : Nat) : Whole (w.drewN n) b t cs := h
theorem Whole.alloc (h : Whole w b t cs) (o : Obj) : Whole (w.alloc o) b t cs := (Below.heap_alloc w o b h.lt).trans h
theorem Whole.put (h : Whole w b t cs) (i : Nat) (u : Value) : Whole (w.setCell ⟨b, i, none⟩ u) b t (cs.setIfInBounds i u) := by
  unfold Whole at h ⊢
  simp [World.setCell, Array.getElem?_modify, h]
theorem Whole.far (h : Whole w b t cs) {p : Addr} (hp : b ≠ p.block) (u : Value) : Whole (w.setCell p u) b t cs := (Below.heap_setCell w p u b hp).trans h
theorem Whole.only (h : Whole w b t cs) (ho : Only S w w') (hb : ¬ S b) : Whole w' b t cs := (ho.block b h.lt hb).trans h
theorem Whole.below {B : Nat} (h : Whole w b t cs) (hb : Below B w w') (hg : b < B) : Whole w' b t cs := (hb.block b hg).trans h
theorem Whole.apart {b' : Nat} {t' : TypeId} {cs' : Array Value} (h : Whole w b t cs) (h' : Whole w b' t' cs') (hne : t ≠ t') : b ≠ b' := by
  rintro rfl
  unfold Whole at h h'
  rw [h] at h'
  injection h' with h'
  injection h' with _ ht
  exact hne ht
end

theorem below_drew {B : Nat} {w w' : World} (h : Below B w w') : Below B w w'.drew := ⟨h.os, h.tape, h.output, h.size, h.block⟩
theorem below_drewN {B : Nat} {w w' : World} (h : Below B w w') (n : Nat) : Below B w (w'.drewN n) := ⟨h.os, h.tape, h.output, h.size, h.block⟩

/-- Numbers of 64 bits, as cells. -/
def nums (cs : List Int) : Array Value := (cs.map (Value.int .i64)).toArray
theorem nums_size (cs : List Int) : (nums cs).size = cs.length := by simp [nums]
/-- The i-th number. -/
def nth (cs : List Int) (i : Nat) : Int := cs.getD i 0
theorem nums_at (cs : List Int) (i : Nat) (h : i < cs.length) : (nums cs)[i]? = some (.int .i64 (nth cs i)) := by
  simp [nums, nth, List.getD_eq_getElem?_getD, List.getElem?_eq_getElem h]
theorem nums_set (cs : List Int) (i : Nat) (v : Int) : (nums cs).setIfInBounds i (.int .i64 v) = nums (cs.set i v) := by
  simp [nums, List.map_set]
theorem nums_made (n : Nat) : madeCells #[.int .i64 0] n = nums (List.replicate n 0) := by
  apply Array.ext
  · simp [size_madeCells, nums]
  · intro i h1 h2
    simp [madeCells, nums, Nat.mod_one]
theorem nums_push (cs : List Int) (v : Int) : (nums cs).push (.int .i64 v) = nums (cs ++ [v]) := by simp [nums]
theorem wrap_both (a b : Int) : wrap64 (IntKind.u64.wrap (IntKind.u64.wrap a + IntKind.u64.wrap b)) = wrap64 (a + b) := by
  rw [IntKind.wrap_u64, IntKind.wrap_u64, IntKind.wrap_u64]
  unfold wrap64; omega
end Go.Proofs.Ytejkhnphplpkeaa

/-
  Words for calls that only tell: what they answer, and that all they make is new.
-/
namespace Go.Proofs.Ytejkhnphplpkeaa
open Go.ChangeShapes Go.WideShapes Go.ChangeAt Go.RowKit
set_option linter.unusedVariables false

/-- r tells whether P. -/
def Tells (r : Bool) (P : Prop) : Prop := r = true ↔ P
theorem Tells.yes {r : Bool} {P : Prop} (h : Tells r P) (p : P) : r = true := h.2 p
theorem Tells.no {r : Bool} {P : Prop} (h : Tells r P) (p : ¬ P) : r = false := by
  cases r with
  | false => rfl
  | true => exact absurd (h.1 rfl) p

theorem Tells.is {r x : Bool} {P : Prop} (h : Tells r P) (k : x = true ↔ P) : x = r := by
  rw [Bool.eq_iff_iff]; exact k.trans h.symm

/-- A call that only tells of what it is handed: it answers v, and what it makes is new. -/
def Says (f : Nat) (args : Array Value) (v : Value) : Prop := ∀ w : World, Calls Try.prog f args w fun e w' => e = .returned v ∧ Below w.heap.size w w'

theorem says_bool {x r : Bool} (h : x = r) : Ending.returned (.bool x) = .returned (.bool r) := by rw [h]
theorem tells_it (P : Prop) [Decidable P] : Tells (decide P) P := by simp [Tells]
theorem below_new (w : World) (o : Obj) : Below w.heap.size w (w.alloc o) := (Below.refl _ _).alloc (Nat.le_refl _) _
theorem below_new2 (w : World) (o o' : Obj) : Below w.heap.size w ((w.alloc o).alloc o') := (below_new w o).alloc (by simp) _
theorem below_then {w w1 w2 : World} {B : Nat} (h : Below B w w1) (k : Below w1.heap.size w1 w2) (hB : B ≤ w.heap.size) : Below B w w2 := h.trans (k.mono (Nat.le_trans hB h.size))
theorem tmod_up {x : Int} (h : 0 ≤ x) : x.tmod 4096 = x % 4096 := Int.tmod_eq_emod_of_nonneg h
end Go.Proofs.Ytejkhnphplpkeaa

/-
  Layer 6: areas as values, and a contract for each call that tells of one.
-/
namespace Go.Proofs.Ytejkhnphplpkeaa
open Go.ChangeShapes Go.WideShapes Go.ChangeAt Go.RowKit
set_option linter.unusedVariables false

/-- An area, by its six fields. -/
structure Ar where
  s : Int
  e : Int
  p : Int
  sh : Bool
  bk : Int
  off : Int

/-- As the program has it. -/
def Ar.v (a : Ar) : Value := .agg #[.int .i64 a.s, .int .i64 a.e, .int .i64 a.p, .bool a.sh, .int .i64 a.bk, .int .i64 a.off]

structure Placed (a : Ar) : Prop where
  sp : a.s.tmod 4096 = 0
  ep : a.e.tmod 4096 = 0
  lo : 65536 ≤ a.s
  some : a.s < a.e
  hi : a.e ≤ 2097152
/-- What its backing must be. -/
structure Backed (a : Ar) : Prop where
  none : a.bk = 0 → a.off = 0
  some : a.bk ≠ 0 → (0 < a.bk ∧ a.bk ≤ 9) ∧ a.off.tmod 4096 = 0 ∧ 0 ≤ a.off ∧ a.off ≤ 1099511627776 - (a.e - a.s)
structure Formed (a : Ar) : Prop where
  placed : Placed a
  backed : Backed a
  p0 : 0 ≤ a.p
  p7 : a.p ≤ 7

instance (a : Ar) : Decidable (Placed a) := decidable_of_iff (a.s.tmod 4096 = 0 ∧ a.e.tmod 4096 = 0 ∧ 65536 ≤ a.s ∧ a.s < a.e ∧ a.e ≤ 2097152) ⟨fun ⟨a, b, c, d, e⟩ => ⟨a, b, c, d, e⟩, fun ⟨a, b, c, d, e⟩ => ⟨a, b, c, d, e⟩⟩
instance (a : Ar) : Decidable (Backed a) := decidable_of_iff ((a.bk = 0 → a.off = 0) ∧ (a.bk ≠ 0 → (0 < a.bk ∧ a.bk ≤ 9) ∧ a.off.tmod 4096 = 0 ∧ 0 ≤ a.off ∧ a.off ≤ 1099511627776 - (a.e - a.s))) ⟨fun ⟨a, b⟩ => ⟨a, b⟩, fun ⟨a, b⟩ => ⟨a, b⟩⟩
instance (a : Ar) : Decidable (Formed a) := decidable_of_iff (Placed a ∧ Backed a ∧ 0 ≤ a.p ∧ a.p ≤ 7) ⟨fun ⟨a, b, c, d⟩ => ⟨a, b, c, d⟩, fun ⟨a, b, c, d⟩ => ⟨a, b, c, d⟩⟩

set_option maxHeartbeats 1000000 in
theorem placed_any (a : Ar) {r : Bool} (hr : Tells r (Placed a)) : Says 73 #[a.v] (.bool r) := by
  intro w
  have HR := Lib.hid hr
  clear hr
  obtain ⟨s, e, p, sh, bk, off⟩ := a
  unfold Ar.v
  go_enter Try.func73, Try.ntmps73
  go_wp2
  all_goals
    go_ret
    refine ⟨says_bool (HR.out.is ⟨fun h => ?_, fun h => ?_⟩), (Below.refl _ _).alloc (Nat.le_refl _) _⟩
    · simp at h
      try exact ⟨by assumption, by assumption, by assumption, by assumption, h⟩
      try omega
    · obtain ⟨h1, h2, h3, h4, h5⟩ := h
      simp only at h1 h2 h3 h4 h5
      simp
      try omega

set_option maxHeartbeats 2000000 in
theorem backed_any (a : Ar) (hp : Placed a) {r : Bool} (hr : Tells r (Backed a)) : Says 74 #[a.v] (.bool r) := by
  intro w
  have HR := Lib.hid hr
  obtain ⟨s, e, p, sh, bk, off⟩ := a
  obtain ⟨h1, h2, h3, h4, h5⟩ := hp
  simp only at h1 h2 h3 h4 h5
  clear hr h1 h2
  unfold Ar.v
  by_cases hb : bk = 0
  · subst hb
    go_enter Try.func74, Try.ntmps74
    go_wp2
    go_ret
    refine ⟨says_bool (HR.out.is ⟨fun h => ?_, fun h => ?_⟩), (Below.refl _ _).alloc (Nat.le_refl _) _⟩
    · simp at h
      exact ⟨fun _ => h, fun h => absurd rfl h⟩
    · simp
      exact h.none rfl
  · go_enter Try.func74, Try.ntmps74
    go_wp2
    all_goals
      go_ret
      refine ⟨says_bool (HR.out.is ⟨fun h => ?_, fun h => ?_⟩), (Below.refl _ _).alloc (Nat.le_refl _) _⟩
      · simp at h
        try exact ⟨fun h => absurd h hb, fun _ => ⟨⟨by omega, by omega⟩, by assumption, by omega, by omega⟩⟩
        try omega
      · obtain ⟨⟨h1, h2⟩, h3, h4, h5⟩ := h.some hb
        simp only at h1 h2 h3 h4 h5
        simp
        try omega

/-- As cells. -/
def Ar.cells (a : Ar) : Array Value := #[.int .i64 a.s, .int .i64 a.e, .int .i64 a.p, .bool a.sh, .int .i64 a.bk, .int .i64 a.off]
/-- A variable that holds an area. -/
def ArIn (w : World) (q : Nat) (a : Ar) : Prop := Whole w q 74 a.cells
section
variable {w w' : World} {q : Nat} {a : Ar}
theorem ArIn.cs (h : ArIn w q a) : w.cell? ⟨q, 0, none⟩ = some (.int .i64 a.s) ∧ w.cell? ⟨q, 1, none⟩ = some (.int .i64 a.e) ∧ w.cell? ⟨q, 2, none⟩ = some (.int .i64 a.p) ∧
    w.cell? ⟨q, 3, none⟩ = some (.bool a.sh) ∧ w.cell? ⟨q, 4, none⟩ = some (.int .i64 a.bk) ∧ w.cell? ⟨q, 5, none⟩ = some (.int .i64 a.off) :=
  ⟨Whole.cell h 0, Whole.cell h 1, Whole.cell h 2, Whole.cell h 3, Whole.cell h 4, Whole.cell h 5⟩
theorem ArIn.new (w : World) (a : Ar) : ArIn (w.alloc (.cells a.cells 74)) w.heap.size a := Whole.new w _ _
theorem ArIn.still {B : Nat} (h : ArIn w q a) (hb : Below B w w') (hq : q < B) : ArIn w' q a := Whole.below h hb hq
end
set_option maxHeartbeats 1000000 in
theorem formed_any (a : Ar) : Says 59 #[a.v] (.bool (decide (Formed a))) := by
  intro w
  have HR := Lib.hid (tells_it (Formed a))
  generalize decide (Formed a) = r at *
  have A0 := Lib.hid (ArIn.new w a)
  by_cases hp : Placed a
  · have X1 := Lib.hid (placed_any a (r := true) ⟨fun _ => hp, fun _ => rfl⟩)
    by_cases hb : Backed a
    · have X2 := Lib.hid (backed_any a hp (r := true) ⟨fun _ => hb, fun _ => rfl⟩)
      have HP := Lib.hid hp
      have HB := Lib.hid hb
      clear hp hb
      obtain ⟨s, t, p, sh, bk, off⟩ := a
      unfold Ar.v at *
      go_enter Try.func59, Try.ntmps59
      go_wp2_with fail
      refine (X1.out _).mono ?_
      rintro e w1 ⟨rfl, hb1⟩
      have B1 := Lib.hid (below_then (below_new w _) hb1 (Nat.le_refl _))
      have A1 := Lib.hid (A0.out.still hb1 (by simp))
      obtain ⟨c0, c1, c2, c3, c4, c5⟩ := A1.out.cs
      clear hb1
      go_wp2_with fail
      refine (X2.out _).mono ?_
      rintro e w2 ⟨rfl, hb2⟩
      have B2 := Lib.hid (below_then B1.out hb2 (Nat.le_refl _))
      have A2 := Lib.hid (A1.out.still hb2 (Whole.lt A1.out))
      have c2' := A2.out.cs.2.2.1
      clear hb2 c0 c1 c2 c3 c4 c5
      go_wp2
      all_goals
        go_ret
        refine ⟨says_bool (HR.out.is ⟨fun h => ?_, fun h => ?_⟩), B2.out⟩
        · simp at h
          try exact ⟨HP.out, HB.out, by assumption, by assumption⟩
        · have h1 := h.p0
          have h2 := h.p7
          simp only at h1 h2
          simp
          omega
    · have X2 := Lib.hid (backed_any a hp (r := false) ⟨(fun h => by cases h), fun h => absurd h hb⟩)
      have HN : Hid (¬ Formed a) := fun h => hb h.backed
      clear hp hb
      obtain ⟨s, t, p, sh, bk, off⟩ := a
      unfold Ar.v at *
      go_enter Try.func59, Try.ntmps59
      go_wp2_with fail
      refine (X1.out _).mono ?_
      rintro e w1 ⟨rfl, hb1⟩
      have B1 := Lib.hid (below_then (below_new w _) hb1 (Nat.le_refl _))
      have A1 := Lib.hid (A0.out.still hb1 (by simp))
      obtain ⟨c0, c1, c2, c3, c4, c5⟩ := A1.out.cs
      clear hb1
      go_wp2_with fail
      refine (X2.out _).mono ?_
      rintro e w2 ⟨rfl, hb2⟩
      have B2 := Lib.hid (below_then B1.out hb2 (Nat.le_refl _))
      clear hb2
      go_wp2_with fail
      go_ret
      exact ⟨says_bool (HR.out.no HN.out).symm, B2.out⟩
  · have X1 := Lib.hid (placed_any a (r := false) ⟨(fun h => by cases h), fun h => absurd h hp⟩)
    have HN : Hid (¬ Formed a) := fun h => hp h.placed
    clear hp
    obtain ⟨s, t, p, sh, bk, off⟩ := a
    unfold Ar.v at *
    go_enter Try.func59, Try.ntmps59
    go_wp2_with fail
    refine (X1.out _).mono ?_
    rintro e w1 ⟨rfl, hb1⟩
    have B1 := Lib.hid (below_then (below_new w _) hb1 (Nat.le_refl _))
    clear hb1
    go_wp2_with fail
    go_ret
    exact ⟨says_bool (HR.out.no HN.out).symm, B1.out⟩

/-- An area with another start, and the offset that belongs to it. -/
def Ar.from (a : Ar) (x : Int) : Ar := { a with s := x, off := if a.bk = 0 then a.off else a.off + (x - a.s) }
set_option maxHeartbeats 1000000 in
theorem from_any (a : Ar) (x : Int) (h0 : 0 ≤ a.s) (h1 : a.s ≤ 2097152) (h2 : 0 ≤ x) (h3 : x ≤ 2097152) (h4 : 0 ≤ a.off) (h5 : a.off ≤ 1099511627776) : Says 75 #[a.v, .int .i64 x] (a.from x).v := by
  intro w
  obtain ⟨s, t, p, sh, bk, off⟩ := a
  unfold Ar.v Ar.from
  simp only at *
  by_cases hb : bk = 0
  · subst hb
    go_enter Try.func75, Try.ntmps75
    go_wp2
    refine bodyPost_ret (results_cell_row rfl _ _ (w.heap.size + 1) 74 _ (0, 0) _ rfl (heap_alloc2_new _ _ _) Try.underlying74 rfl (by kernel_rfl)) rfl ?_
    exact ⟨rfl, below_new2 _ _ _⟩
  · go_enter Try.func75, Try.ntmps75
    go_wp2
    refine bodyPost_ret (results_cell_row rfl _ _ (w.heap.size + 1) 74 _ (0, 0) _ rfl (heap_alloc2_new _ _ _) Try.underlying74 rfl (by kernel_rfl)) rfl ?_
    exact ⟨rfl, below_new2 _ _ _⟩

theorem Formed.sp {a : Ar} (h : Formed a) : a.s % 4096 = 0 := by rw [← tmod_up (by have := h.placed.lo; omega)]; exact h.placed.sp
theorem Formed.ep {a : Ar} (h : Formed a) : a.e % 4096 = 0 := by rw [← tmod_up (by have := h.placed.lo; have := h.placed.some; omega)]; exact h.placed.ep
theorem Formed.off0 {a : Ar} (h : Formed a) : 0 ≤ a.off ∧ a.off ≤ 1099511627776 - (a.e - a.s) ∧ a.off % 4096 = 0 := by
  have h1 := h.placed.lo
  have h2 := h.placed.some
  have h3 := h.placed.hi
  by_cases hb : a.bk = 0
  · rw [h.backed.none hb]; omega
  · obtain ⟨_, k1, k2, k3⟩ := h.backed.some hb
    rw [tmod_up k2] at k1
    exact ⟨k2, k3, k1⟩

/-- Whether an address is in an area. -/
structure HasA (a : Ar) (x : Int) : Prop where
  formed : Formed a
  lo : a.s ≤ x
  hi : x < a.e
instance (a : Ar) (x : Int) : Decidable (HasA a x) := decidable_of_iff (Formed a ∧ a.s ≤ x ∧ x < a.e) ⟨fun ⟨a, b, c⟩ => ⟨a, b, c⟩, fun ⟨a, b, c⟩ => ⟨a, b, c⟩⟩

/-- What a page has. -/
structure At where
  p : Int
  sh : Bool
  bk : Int
  off : Int
def At.v (a : At) : Value := .agg #[.int .i64 a.p, .bool a.sh, .int .i64 a.bk, .int .i64 a.off]
def At.nil : At := ⟨0, false, 0, 0⟩
def Ar.nil : Ar := ⟨0, 0, 0, false, 0, 0⟩
/-- Where the page of an address begins. -/
def pg (x : Int) : Int := x - x % 4096
def Ar.attr (a : Ar) (x : Int) : At := ⟨a.p, a.sh, a.bk, (a.from (pg x)).off⟩

end Go.Proofs.Ytejkhnphplpkeaa

/-
  Layer 6: what an area's page has, parts and joins: a contract for each call.
-/
namespace Go.Proofs.Ytejkhnphplpkeaa
open Go.ChangeShapes Go.WideShapes Go.ChangeAt Go.RowKit
set_option linter.unusedVariables false

theorem ArIn.fr {w : World} {q : Nat} {a : Ar} (h : ArIn w q a) (i : Nat) : w.frozen? ⟨q, i, none⟩ = false := Whole.frozen h i
def At.cells (a : At) : Array Value := #[.int .i64 a.p, .bool a.sh, .int .i64 a.bk, .int .i64 a.off]

/-- Two variables of a call: what it was handed, and what it will answer. -/
structure Two (w w' : World) (q : Nat) (a : Ar) (t : TypeId) (cs : Array Value) : Prop where
  var : ArIn w' q a
  res : Whole w' (q + 1) t cs
  bel : Below q w w'
theorem Two.new (w : World) (a : Ar) (t : TypeId) (cs : Array Value) : Two w ((w.alloc (.cells a.cells 74)).alloc (.cells cs t)) w.heap.size a t cs :=
  ⟨(ArIn.new w a).alloc _, by have := Whole.new (w.alloc (.cells a.cells 74)) t cs; simpa using this, below_new2 _ _ _⟩
section
variable {w w' w'' : World} {q : Nat} {a : Ar} {t : TypeId} {cs : Array Value}
theorem Two.lt (h : Two w w' q a t cs) : q + 1 < w'.heap.size := h.res.lt
theorem Two.still (h : Two w w' q a t cs) (hb : Below w'.heap.size w' w'') : Two w w'' q a t cs :=
  ⟨h.var.still hb (by have := h.lt; omega), h.res.below hb h.lt, h.bel.trans (hb.mono (by have := h.lt; omega))⟩
theorem Two.drew (h : Two w w' q a t cs) : Two w w'.drew q a t cs := ⟨h.var, h.res, below_drew h.bel⟩
theorem Two.put (h : Two w w' q a t cs) (b : Ar) : Two w ((((((w'.setCell ⟨q, 0, none⟩ (.int .i64 b.s)).setCell ⟨q, 1, none⟩ (.int .i64 b.e)).setCell ⟨q, 2, none⟩ (.int .i64 b.p)).setCell ⟨q, 3, none⟩ (.bool b.sh)).setCell ⟨q, 4, none⟩ (.int .i64 b.bk)).setCell ⟨q, 5, none⟩ (.int .i64 b.off)) q b t cs := by
  refine ⟨?_, ?_, ?_⟩
  · exact (((((Whole.put h.var 0 _).put 1 _).put 2 _).put 3 _).put 4 _).put 5 _
  · refine Whole.far (Whole.far (Whole.far (Whole.far (Whole.far (Whole.far h.res ?_ _) ?_ _) ?_ _) ?_ _) ?_ _) ?_ _
    all_goals simp
  · exact (((((h.bel.setCell (Nat.le_refl _) _).setCell (Nat.le_refl _) _).setCell (Nat.le_refl _) _).setCell (Nat.le_refl _) _).setCell (Nat.le_refl _) _).setCell (Nat.le_refl _) _
end

/-- A struct through its cell, and one thing more. -/
theorem results_row_tmp {P : Program} {fn : Func} {p u : Tmp} {ty : TypeId} (h : fn.results = #[.cell p ty, .tmp u]) (tmps : Array Value) (w : World) (g : Nat) (t : TypeId) (cs : Array Value) (fr : Nat × Nat) (d : TypeDesc)
    (hp : tmps.getD p undef = .pointer (some ⟨g, 0, none⟩)) (hg : w.heap[g]? = some (.cells cs t fr))
    (hu : P.underlying ty = some d) (hd : (match d with | .struct _ | .array _ _ => true | _ => false) = true) (hi : (P.info? ty).map (·.size) = some cs.size) :
    (results fn tmps).run P w = .ok (.tuple #[.agg cs, tmps.getD u undef]) w := by
  rw [results_cell_tmp h, hp]
  simp [asAddr, Result.andThen, run_loadVar_row w g t ty cs fr d hg hu hd hi]
theorem at_put {w : World} {q : Nat} {t : TypeId} {a b c d : Value} (h : Whole w q t #[a, b, c, d]) (x y z u : Value) :
    Whole ((((w.setCell ⟨q, 0, none⟩ x).setCell ⟨q, 1, none⟩ y).setCell ⟨q, 2, none⟩ z).setCell ⟨q, 3, none⟩ u) q t #[x, y, z, u] :=
  (((Whole.put h 0 _).put 1 _).put 2 _).put 3 _
theorem at_cs {w : World} {q : Nat} {t : TypeId} {a b c d : Value} (h : Whole w q t #[a, b, c, d]) : w.cell? ⟨q, 0, none⟩ = some a ∧ w.cell? ⟨q, 1, none⟩ = some b ∧ w.cell? ⟨q, 2, none⟩ = some c ∧ w.cell? ⟨q, 3, none⟩ = some d ∧
    w.frozen? ⟨q, 0, none⟩ = false ∧ w.frozen? ⟨q, 1, none⟩ = false ∧ w.frozen? ⟨q, 2, none⟩ = false ∧ w.frozen? ⟨q, 3, none⟩ = false :=
  ⟨h.cell 0, h.cell 1, h.cell 2, h.cell 3, h.frozen 0, h.frozen 1, h.frozen 2, h.frozen 3⟩

end Go.Proofs.Ytejkhnphplpkeaa

/-
  Layer 6: areas that go on in others, joins and parts: a contract for each call.
-/
namespace Go.Proofs.Ytejkhnphplpkeaa
open Go.ChangeShapes Go.WideShapes Go.ChangeAt Go.RowKit
set_option linter.unusedVariables false

/-- Whether an area goes on in another one. -/
structure GoesA (a b : Ar) : Prop where
  fa : Formed a
  fb : Formed b
  at' : a.e = b.s
  p : a.p = b.p
  sh : a.sh = b.sh
  bk : a.bk = b.bk
  off : a.bk ≠ 0 → b.off = a.off + (a.e - a.s)
instance (a b : Ar) : Decidable (GoesA a b) := decidable_of_iff (Formed a ∧ Formed b ∧ a.e = b.s ∧ a.p = b.p ∧ a.sh = b.sh ∧ a.bk = b.bk ∧ (a.bk ≠ 0 → b.off = a.off + (a.e - a.s))) ⟨fun ⟨a, b, c, d, e, f, g⟩ => ⟨a, b, c, d, e, f, g⟩, fun ⟨a, b, c, d, e, f, g⟩ => ⟨a, b, c, d, e, f, g⟩⟩

/-- The second of two variables, where it is an area too. -/
theorem Two.snd {w w' : World} {q : Nat} {a b : Ar} (h : Two w w' q a 74 b.cells) : ArIn w' (q + 1) b := h.res
theorem Two.end {w w' : World} {q : Nat} {a : Ar} {t : TypeId} {cs : Array Value} (h : Two w w' q a t cs) (x : Int) : Two w (w'.setCell ⟨q, 1, none⟩ (.int .i64 x)) q { a with e := x } t cs :=
  ⟨Whole.put h.var 1 _, Whole.far h.res (by simp) _, h.bel.setCell (Nat.le_refl _) _⟩

set_option maxHeartbeats 1000000 in
theorem goes_any (a b : Ar) : Says 60 #[a.v, b.v] (.bool (decide (GoesA a b))) := by
  intro w
  have HR := Lib.hid (tells_it (GoesA a b))
  generalize decide (GoesA a b) = r at *
  have A0 := Lib.hid (Two.new w a 74 b.cells)
  have X := Lib.hid (formed_any a)
  by_cases hp : Formed a
  · rw [show decide (Formed a) = true from decide_eq_true hp] at X
    have Y := Lib.hid (formed_any b)
    by_cases hb : Formed b
    · rw [show decide (Formed b) = true from decide_eq_true hb] at Y
      have h1 := hp.off0
      have h2 := hp.placed.lo
      have h3 := hp.placed.hi
      have h4 := hp.placed.some
      have F := Lib.hid (from_any a a.e (by omega) (by omega) (by omega) (by omega) (by omega) (by omega))
      have HP := Lib.hid hp
      have HB := Lib.hid hb
      clear hp hb h1 h2 h3 h4
      generalize hF : a.from a.e = f at *
      have HF := Lib.hid hF
      clear hF
      obtain ⟨s, t, p, sh, bk, off⟩ := a
      obtain ⟨s1, t1, p1, sh1, bk1, off1⟩ := b
      obtain ⟨s', t', p', sh', bk', off'⟩ := f
      unfold Ar.v Ar.cells at *
      go_enter Try.func60, Try.ntmps60
      go_upto_region 1 with (fail)
      simp only at A0
      generalize (w.alloc _).alloc _ = w0 at *
      generalize hq : w.heap.size = q at *
      have HQ := Lib.hid hq
      clear hq
      obtain ⟨c0, c1, c2, c3, c4, c5⟩ := A0.out.var.cs
      go_wp2_with fail
      refine (X.out _).mono ?_
      rintro e w1 ⟨rfl, hb1⟩
      have A1 := Lib.hid (A0.out.still hb1)
      clear c0 c1 c2 c3 c4 c5 hb1 A0
      obtain ⟨c0, c1, c2, c3, c4, c5⟩ := (Two.snd (b := ⟨s1, t1, p1, sh1, bk1, off1⟩) A1.out).cs
      go_wp2_with fail
      refine (Y.out _).mono ?_
      rintro e w2 ⟨rfl, hb1⟩
      have A2 := Lib.hid (A1.out.still hb1)
      clear c0 c1 c2 c3 c4 c5 hb1 A1
      obtain ⟨c0, c1, c2, c3, c4, c5⟩ := A2.out.var.cs
      go_wp2_with fail
      refine (F.out _).mono ?_
      rintro e w3 ⟨rfl, hb1⟩
      have A3 := Lib.hid (A2.out.still hb1)
      clear c0 c1 c2 c3 c4 c5 hb1 A2
      obtain ⟨c0, c1, c2, c3, c4, c5⟩ := A3.out.var.cs
      have f0 := A3.out.var.fr 0; have f1 := A3.out.var.fr 1; have f2 := A3.out.var.fr 2; have f3 := A3.out.var.fr 3; have f4 := A3.out.var.fr 4; have f5 := A3.out.var.fr 5
      go_upto_region 4 with (fail)
      have A4 := Lib.hid (A3.out.put ⟨s', t', p', sh', bk', off'⟩)
      simp only at A4
      clear c0 c1 c2 c3 c4 c5 f0 f1 f2 f3 f4 f5 A3
      generalize World.setCell _ _ _ = w4 at *
      obtain ⟨c0, c1, c2, c3, c4, c5⟩ := A4.out.var.cs
      obtain ⟨d0, d1, d2, d3, d4, d5⟩ := (Two.snd (b := ⟨s1, t1, p1, sh1, bk1, off1⟩) A4.out).cs
      have f1 := A4.out.var.fr 1
      go_wp2_with fail
      all_goals
        go_ret
        have hf := HF.out
        simp only [Ar.from, Ar.mk.injEq] at hf
        obtain ⟨rfl, -, rfl, rfl, rfl, hf⟩ := hf
        refine ⟨says_bool (HR.out.is ⟨fun h => ?_, fun h => ?_⟩), ?_⟩
        · simp at h
          try (refine ⟨HP.out, HB.out, ?_, ?_, ?_, ?_, ?_⟩ <;> simp only <;> first | assumption | (symm; assumption) | (intro h9; rw [if_neg h9] at hf; omega))
        · obtain ⟨h1, h2, h3, h4, h5, h6, h7⟩ := h
          have h8 := h1.backed.none
          have h9 := h2.backed.none
          simp only at h3 h4 h5 h6 h7 h8 h9
          simp
          all_goals first
            | exact absurd h3 (by assumption)
            | exact absurd h4 (by assumption)
            | exact absurd h5 (by assumption)
            | exact absurd h6 (by assumption)
            | (by_cases h0 : bk = 0
               · rw [if_pos h0] at hf
                 have k1 := h8 h0
                 have k2 := h9 (h6 ▸ h0)
                 omega
               · rw [if_neg h0] at hf
                 have := h7 h0
                 omega)
        · rw [HQ.out]
          exact A4.out.bel.setCell (Nat.le_refl _) _
    · rw [show decide (Formed b) = false from decide_eq_false hb] at Y
      have HN : Hid (¬ GoesA a b) := fun h => hb h.fb
      clear hp hb
      obtain ⟨s, t, p, sh, bk, off⟩ := a
      obtain ⟨s1, t1, p1, sh1, bk1, off1⟩ := b
      unfold Ar.v Ar.cells at *
      go_enter Try.func60, Try.ntmps60
      go_upto_region 1 with (fail)
      simp only at A0
      generalize (w.alloc _).alloc _ = w0 at *
      generalize hq : w.heap.size = q at *
      have HQ := Lib.hid hq
      clear hq
      obtain ⟨c0, c1, c2, c3, c4, c5⟩ := A0.out.var.cs
      go_wp2_with fail
      refine (X.out _).mono ?_
      rintro e w1 ⟨rfl, hb1⟩
      have A1 := Lib.hid (A0.out.still hb1)
      clear c0 c1 c2 c3 c4 c5 hb1 A0
      obtain ⟨c0, c1, c2, c3, c4, c5⟩ := (Two.snd (b := ⟨s1, t1, p1, sh1, bk1, off1⟩) A1.out).cs
      go_wp2_with fail
      refine (Y.out _).mono ?_
      rintro e w2 ⟨rfl, hb1⟩
      have A2 := Lib.hid (A1.out.still hb1)
      clear c0 c1 c2 c3 c4 c5 hb1 A1
      go_wp2_with fail
      go_ret
      exact ⟨says_bool (HR.out.no HN.out).symm, by rw [HQ.out]; exact A2.out.bel⟩
  · rw [show decide (Formed a) = false from decide_eq_false hp] at X
    have HN : Hid (¬ GoesA a b) := fun h => hp h.fa
    clear hp
    obtain ⟨s, t, p, sh, bk, off⟩ := a
    obtain ⟨s1, t1, p1, sh1, bk1, off1⟩ := b
    unfold Ar.v Ar.cells at *
    go_enter Try.func60, Try.ntmps60
    go_upto_region 1 with (fail)
    simp only at A0
    generalize (w.alloc _).alloc _ = w0 at *
    generalize hq : w.heap.size = q at *
    have HQ := Lib.hid hq
    clear hq
    obtain ⟨c0, c1, c2, c3, c4, c5⟩ := A0.out.var.cs
    go_wp2_with fail
    refine (X.out _).mono ?_
    rintro e w1 ⟨rfl, hb1⟩
    have A1 := Lib.hid (A0.out.still hb1)
    clear c0 c1 c2 c3 c4 c5 hb1 A0
    go_wp2_with fail
    go_ret
    exact ⟨says_bool (HR.out.no HN.out).symm, by rw [HQ.out]; exact A1.out.bel⟩

/-- Three variables of a call: the two that it was handed, and what it will answer. -/
structure Three (w w' : World) (q : Nat) (a b : Ar) (cs : Array Value) : Prop where
  var : ArIn w' q a
  snd : ArIn w' (q + 1) b
  res : Whole w' (q + 2) 74 cs
  bel : Below q w w'
theorem Three.new (w : World) (a b : Ar) (cs : Array Value) : Three w (((w.alloc (.cells a.cells 74)).alloc (.cells b.cells 74)).alloc (.cells cs 74)) w.heap.size a b cs := by
  have h := Two.new w a 74 b.cells
  refine ⟨h.var.alloc _, h.res.alloc _, ?_, h.bel.alloc (by simp; omega) _⟩
  have := Whole.new ((w.alloc (.cells a.cells 74)).alloc (.cells b.cells 74)) 74 cs
  simpa using this
section
variable {w w' w'' : World} {q : Nat} {a b : Ar} {cs : Array Value}
theorem Three.lt (h : Three w w' q a b cs) : q + 2 < w'.heap.size := h.res.lt
theorem Three.still (h : Three w w' q a b cs) (hb : Below w'.heap.size w' w'') : Three w w'' q a b cs :=
  ⟨h.var.still hb (by have := h.lt; omega), h.snd.still hb (by have := h.lt; omega), h.res.below hb h.lt, h.bel.trans (hb.mono (by have := h.lt; omega))⟩
theorem Three.end (h : Three w w' q a b cs) (x : Int) : Three w (w'.setCell ⟨q, 1, none⟩ (.int .i64 x)) q { a with e := x } b cs :=
  ⟨Whole.put h.var 1 _, Whole.far h.snd (by simp) _, Whole.far h.res (by simp) _, h.bel.setCell (Nat.le_refl _) _⟩
end
/-- The six cells of a variable. -/
theorem put6 {w : World} {q : Nat} {t : TypeId} {a b c d e f : Value} (h : Whole w q t #[a, b, c, d, e, f]) (a' b' c' d' e' f' : Value) :
    Whole ((((((w.setCell ⟨q, 0, none⟩ a').setCell ⟨q, 1, none⟩ b').setCell ⟨q, 2, none⟩ c').setCell ⟨q, 3, none⟩ d').setCell ⟨q, 4, none⟩ e').setCell ⟨q, 5, none⟩ f') q t #[a', b', c', d', e', f'] :=
  (((((Whole.put h 0 _).put 1 _).put 2 _).put 3 _).put 4 _).put 5 _
theorem cs6 {w : World} {q : Nat} {t : TypeId} {a b c d e f : Value} (h : Whole w q t #[a, b, c, d, e, f]) : w.cell? ⟨q, 0, none⟩ = some a ∧ w.cell? ⟨q, 1, none⟩ = some b ∧ w.cell? ⟨q, 2, none⟩ = some c ∧ w.cell? ⟨q, 3, none⟩ = some d ∧ w.cell? ⟨q, 4, none⟩ = some e ∧ w.cell? ⟨q, 5, none⟩ = some f ∧
    w.frozen? ⟨q, 0, none⟩ = false ∧ w.frozen? ⟨q, 1, none⟩ = false ∧ w.frozen? ⟨q, 2, none⟩ = false ∧ w.frozen? ⟨q, 3, none⟩ = false ∧ w.frozen? ⟨q, 4, none⟩ = false ∧ w.frozen? ⟨q, 5, none⟩ = false :=
  ⟨h.cell 0, h.cell 1, h.cell 2, h.cell 3, h.cell 4, h.cell 5, h.frozen 0, h.frozen 1, h.frozen 2, h.frozen 3, h.frozen 4, h.frozen 5⟩
theorem below6 {B : Nat} {w w' : World} {q : Nat} (h : Below B w w') (hq : B ≤ q) (a' b' c' d' e' f' : Value) :
    Below B w ((((((w'.setCell ⟨q, 0, none⟩ a').setCell ⟨q, 1, none⟩ b').setCell ⟨q, 2, none⟩ c').setCell ⟨q, 3, none⟩ d').setCell ⟨q, 4, none⟩ e').setCell ⟨q, 5, none⟩ f') :=
  (((((h.setCell hq _).setCell hq _).setCell hq _).setCell hq _).setCell hq _).setCell hq _

end Go.Proofs.Ytejkhnphplpkeaa

/-
  Layer 6: parts, and what an area allows: a contract for each call.
-/
namespace Go.Proofs.Ytejkhnphplpkeaa
open Go.ChangeShapes Go.WideShapes Go.ChangeAt Go.RowKit
set_option linter.unusedVariables false

/-- The first whole page that isn't ahead of an address. -/
def upg (x : Int) : Int := x + 4095 - (x + 4095) % 4096
/-- What an area has from lo on, ahead of hi. -/
def Ar.part (a : Ar) (lo hi : Int) : Ar := { a.from (pg (max lo a.s)) with e := upg (min hi a.e) }
/-- Whether it has anything there. -/
structure PartA (a : Ar) (lo hi : Int) : Prop where
  formed : Formed a
  some : max lo a.s < min hi a.e
instance (a : Ar) (lo hi : Int) : Decidable (PartA a lo hi) := decidable_of_iff (Formed a ∧ max lo a.s < min hi a.e) ⟨fun ⟨a, b⟩ => ⟨a, b⟩, fun ⟨a, b⟩ => ⟨a, b⟩⟩

theorem max_if (x y : Int) : (if x < y then y else x) = max x y := by split <;> omega
theorem min_if (x y : Int) : (if y < x then y else x) = min x y := by split <;> omega

end Go.Proofs.Ytejkhnphplpkeaa

/-
  Layer 6: what an area allows; what a program that does nothing does not answer.
-/
namespace Go.Proofs.Ytejkhnphplpkeaa
open Go.ChangeShapes Go.WideShapes Go.ChangeAt Go.RowKit
set_option linter.unusedVariables false

/-- The low three bits of a number, with those of another one. -/
theorem and_low (p k : Int) (h0 : 0 ≤ k) (h7 : k ≤ 7) : bits .and .i64 p k = (((p % 8).toNat &&& k.toNat : Nat) : Int) := by
  show IntKind.i64.wrap ((BitVec.ofInt 64 p &&& BitVec.ofInt 64 k).toNat : Int) = _
  rw [BitVec.toNat_and, BitVec.toNat_ofInt, BitVec.toNat_ofInt]
  have hk : (k % ((2 ^ 64 : Nat) : Int)).toNat = k.toNat := by congr 1; omega
  rw [hk]
  have hl : ((p % ((2 ^ 64 : Nat) : Int)).toNat &&& k.toNat) = ((p % 8).toNat &&& k.toNat) := by
    have h1 : ((p % ((2 ^ 64 : Nat) : Int)).toNat &&& k.toNat) < 8 := Nat.lt_of_le_of_lt Nat.and_le_right (by omega)
    have h2 := Nat.and_mod_two_pow (a := (p % ((2 ^ 64 : Nat) : Int)).toNat) (b := k.toNat) (n := 3)
    rw [Nat.mod_eq_of_lt (by simpa using h1), Nat.mod_eq_of_lt (a := k.toNat) (by omega)] at h2
    rw [h2]
    congr 1
    omega
  rw [hl, IntKind.wrap_i64]
  have h3 : ((p % 8).toNat &&& k.toNat) ≤ k.toNat := Nat.and_le_right
  omega

/-- Whether a Prot has all bits of a kind. -/
def mayB (p k : Int) : Bool := decide (1 ≤ k ∧ k ≤ 7) && (((p % 8).toNat &&& k.toNat) == k.toNat)

theorem formed_first : Formed ⟨65536, 69632, 1, false, 0, 0⟩ := ⟨⟨rfl, rfl, by decide, by decide, by decide⟩, ⟨(fun _ => rfl), (fun h => absurd rfl h)⟩, by decide, by decide⟩

end Go.Proofs.Ytejkhnphplpkeaa

/-
  Layer 6: what the reference answers, page by page.
-/
namespace Go.Proofs.Ytejkhnphplpkeaa
open Go.ChangeShapes Go.WideShapes Go.ChangeAt Go.RowKit
set_option linter.unusedVariables false

/-- Whether an area is formed, in plain numbers. -/
theorem formed_iff (a : Ar) : Formed a ↔ (65536 ≤ a.s ∧ a.s < a.e ∧ a.e ≤ 2097152 ∧ a.s % 4096 = 0 ∧ a.e % 4096 = 0) ∧ (0 ≤ a.p ∧ a.p ≤ 7 ∧ 0 ≤ a.bk ∧ a.bk ≤ 9) ∧ 0 ≤ a.off ∧ a.off % 4096 = 0 ∧ (a.bk = 0 → a.off = 0) ∧ a.off ≤ 1099511627776 - (a.e - a.s) := by
  constructor
  · intro h
    have h1 := h.placed.lo
    have h2 := h.placed.some
    have h3 := h.placed.hi
    have h4 := h.sp
    have h5 := h.ep
    have h6 := h.off0
    have h7 := h.p0
    have h8 := h.p7
    have h9 := h.backed.none
    have h10 : 0 ≤ a.bk ∧ a.bk ≤ 9 := by
      by_cases hb : a.bk = 0
      · omega
      · have := (h.backed.some hb).1
        omega
    exact ⟨⟨h1, h2, h3, h4, h5⟩, ⟨h7, h8, h10.1, h10.2⟩, h6.1, h6.2.2, h9, h6.2.1⟩
  · rintro ⟨⟨h1, h2, h3, h4, h5⟩, ⟨h7, h8, h10, h11⟩, h12, h13, h14, h15⟩
    exact ⟨⟨by rw [tmod_up (by omega)]; exact h4, by rw [tmod_up (by omega)]; exact h5, h1, h2, h3⟩, ⟨h14, (fun hb => ⟨⟨by omega, h11⟩, by rw [tmod_up h12]; exact h13, h12, h15⟩)⟩, h7, h8⟩

set_option maxHeartbeats 2000000 in
theorem refFormed_any (a : Ar) : Says 55 #[a.v] (.bool (decide (Formed a))) := by
  intro w
  have HR := Lib.hid (tells_it (Formed a))
  generalize decide (Formed a) = r at *
  rw [formed_iff] at HR
  obtain ⟨s, t, p, sh, bk, off⟩ := a
  unfold Ar.v
  simp only at HR
  go_enter Try.func55, Try.ntmps55
  go_wp2
  all_goals
    go_ret
    refine ⟨says_bool (HR.out.is ⟨fun h => ?_, fun h => ?_⟩), below_new _ _⟩
    · simp at h
      all_goals first | omega | (clear HR; simp_all; done) | (clear HR; simp_all; omega)
    · simp
      all_goals first | omega | (clear HR; simp_all; done) | (clear HR; simp_all; omega)

theorem tdiv_up {x : Int} (h : 0 ≤ x) : x.tdiv 4096 = x / 4096 := Int.tdiv_eq_ediv_of_nonneg h

/-- What a page, by its number, has. -/
def Ar.at (a : Ar) (p : Int) : At := ⟨a.p, a.sh, a.bk, if 0 < a.bk then a.off + 4096 * (p - a.s / 4096) else 0⟩

set_option maxHeartbeats 2000000 in
theorem refAttr_in (a : Ar) (n : Int) (h0 : 0 ≤ a.s) (h1 : a.s / 4096 ≤ n) (h2 : n < a.e / 4096) (h3 : a.e ≤ 2097152) (h4 : 0 ≤ a.off) (h5 : a.off ≤ 1099511627776) : Says 67 #[a.v, .int .i64 n] (.tuple #[(a.at n).v, .bool true]) := by
  intro w
  have hs := tdiv_up h0
  have ht := tdiv_up (show 0 ≤ a.e by omega)
  obtain ⟨s, t, p, sh, bk, off⟩ := a
  unfold Ar.v Ar.at At.v
  simp only at *
  have e1 : 0 ≤ 4096 * (n - s / 4096) := by omega
  have e2 : 4096 * (n - s / 4096) ≤ 2097152 := by omega
  have e3 : 0 ≤ n - s / 4096 := by omega
  have e4 : n - s / 4096 ≤ 512 := by omega
  have bn : ∀ (A B C : Obj), Below w.heap.size w (((w.alloc A).alloc B).alloc C) := fun A B C => (below_new2 w A B).alloc (by simp; omega) _
  have BN := Lib.hid bn
  clear bn
  by_cases hb : 0 < bk
  · rw [if_pos hb]
    go_enter Try.func67, Try.ntmps67
    go_wp2
    refine bodyPost_ret (results_row_tmp rfl _ _ (w.heap.size + 1) 110 _ (0, 0) _ rfl (Whole.alloc (heap_alloc2_new _ _ _) _) Try.underlying110 rfl (by kernel_rfl)) rfl ?_
    exact ⟨rfl, BN.out _ _ _⟩
  · rw [if_neg hb]
    go_enter Try.func67, Try.ntmps67
    go_wp2
    refine bodyPost_ret (results_row_tmp rfl _ _ (w.heap.size + 1) 110 _ (0, 0) _ rfl (Whole.alloc (heap_alloc2_new _ _ _) _) Try.underlying110 rfl (by kernel_rfl)) rfl ?_
    exact ⟨rfl, BN.out _ _ _⟩

set_option maxHeartbeats 2000000 in
theorem refAttr_out (a : Ar) (n : Int) (h0 : 0 ≤ a.s) (h1 : n < a.s / 4096 ∨ a.e / 4096 ≤ n) (h2 : a.s ≤ a.e) (h3 : a.e ≤ 2097152) : Says 67 #[a.v, .int .i64 n] (.tuple #[At.nil.v, .bool false]) := by
  intro w
  have hs := tdiv_up h0
  have ht := tdiv_up (show 0 ≤ a.e by omega)
  obtain ⟨s, t, p, sh, bk, off⟩ := a
  unfold Ar.v At.v At.nil
  simp only at *
  rcases h1 with h1 | h1
  · go_enter Try.func67, Try.ntmps67
    go_wp2
    refine bodyPost_ret (results_row_tmp rfl _ _ (w.heap.size + 1) 110 _ (0, 0) _ rfl (heap_alloc2_new _ _ _) Try.underlying110 rfl (by kernel_rfl)) rfl ?_
    exact ⟨rfl, below_new2 _ _ _⟩
  · go_enter Try.func67, Try.ntmps67
    go_wp2
    refine bodyPost_ret (results_row_tmp rfl _ _ (w.heap.size + 1) 110 _ (0, 0) _ rfl (heap_alloc2_new _ _ _) Try.underlying110 rfl (by kernel_rfl)) rfl ?_
    exact ⟨rfl, below_new2 _ _ _⟩

set_option maxHeartbeats 2000000 in
theorem refAfter_any (a b : At) (h0 : 0 ≤ a.off) (h1 : a.off ≤ 1099511627776) {r : Bool} (hr : Tells r (a.p = b.p ∧ a.sh = b.sh ∧ a.bk = b.bk ∧ b.off = if 0 < a.bk then a.off + 4096 else a.off)) : Says 68 #[a.v, b.v] (.bool r) := by
  intro w
  have HR := Lib.hid hr
  clear hr
  obtain ⟨p, sh, bk, off⟩ := a
  obtain ⟨p', sh', bk', off'⟩ := b
  unfold At.v
  simp only at *
  have bn : ∀ (A B C : Obj), Below w.heap.size w (((w.alloc A).alloc B).alloc C) := fun A B C => (below_new2 w A B).alloc (by simp; omega) _
  have BN := Lib.hid bn
  clear bn
  by_cases hb : 0 < bk
  · rw [if_pos hb] at HR
    go_enter Try.func68, Try.ntmps68
    go_wp2
    all_goals
      go_ret
      refine ⟨says_bool (HR.out.is ⟨fun h => ?_, fun h => ?_⟩), BN.out _ _ _⟩
      · simp at h
        try simp_all
      · obtain ⟨rfl, rfl, rfl, rfl⟩ := h
        first | (simp; done) | contradiction
  · rw [if_neg hb] at HR
    go_enter Try.func68, Try.ntmps68
    go_wp2
    all_goals
      go_ret
      refine ⟨says_bool (HR.out.is ⟨fun h => ?_, fun h => ?_⟩), BN.out _ _ _⟩
      · simp at h
        try simp_all
      · obtain ⟨rfl, rfl, rfl, rfl⟩ := h
        first | (simp; done) | contradiction
end Go.Proofs.Ytejkhnphplpkeaa

/-
  Layer 6: parts of parts, and parts that are joined again: what follows.
-/
namespace Go.Proofs.Ytejkhnphplpkeaa
set_option linter.unusedVariables false

theorem Ar.ext' {a b : Ar} (h1 : a.s = b.s) (h2 : a.e = b.e) (h3 : a.p = b.p) (h4 : a.sh = b.sh) (h5 : a.bk = b.bk) (h6 : a.off = b.off) : a = b := by
  cases a; cases b; simp_all
theorem pg_self {x : Int} (h : x % 4096 = 0) : pg x = x := by unfold pg; omega
theorem upg_self {x : Int} (h : x % 4096 = 0) : upg x = x := by unfold upg; omega
theorem pg_le (x : Int) : pg x ≤ x ∧ x < pg x + 4096 ∧ pg x % 4096 = 0 := by unfold pg; omega
theorem upg_le (x : Int) : x ≤ upg x ∧ upg x < x + 4096 ∧ upg x % 4096 = 0 := by unfold upg; omega

section
variable {a : Ar}
theorem from_self (a : Ar) : a.from a.s = a := by
  apply Ar.ext' <;> simp [Ar.from]
theorem from_off (a : Ar) (x : Int) : (a.from x).off = if a.bk = 0 then a.off else a.off + (x - a.s) := rfl
/-- A part of an area that is formed is formed. -/
theorem formed_sub (h : Formed a) {x y : Int} (h1 : a.s ≤ x) (h2 : x < y) (h3 : y ≤ a.e) (h4 : x % 4096 = 0) (h5 : y % 4096 = 0) : Formed { a.from x with e := y } := by
  have g := (formed_iff a).1 h
  rw [formed_iff]
  simp only [Ar.from]
  by_cases hb : a.bk = 0
  · have := g.2.2.2.2.1 hb
    rw [if_pos hb]
    omega
  · rw [if_neg hb]
    omega
theorem formed_head (h : Formed a) {y : Int} (h2 : a.s < y) (h3 : y ≤ a.e) (h5 : y % 4096 = 0) : Formed { a with e := y } := by
  have := formed_sub h (Int.le_refl _) h2 h3 h.sp h5
  rwa [from_self] at this
theorem formed_tail (h : Formed a) {x : Int} (h1 : a.s ≤ x) (h2 : x < a.e) (h4 : x % 4096 = 0) : Formed (a.from x) := by
  have := formed_sub h h1 h2 (Int.le_refl _) h4 h.ep
  exact this
theorem part_head (h : Formed a) {y : Int} (h2 : a.s < y) (h3 : y ≤ a.e) (h5 : y % 4096 = 0) : PartA a a.s y ∧ a.part a.s y = { a with e := y } := by
  have e1 : max a.s a.s = a.s := by omega
  have e2 : min y a.e = y := by omega
  refine ⟨⟨h, by omega⟩, ?_⟩
  unfold Ar.part
  rw [e1, e2, pg_self h.sp, upg_self h5, from_self]
theorem part_tail (h : Formed a) {x : Int} (h1 : a.s ≤ x) (h2 : x < a.e) (h4 : x % 4096 = 0) : PartA a x a.e ∧ a.part x a.e = a.from x := by
  have e1 : max x a.s = x := by omega
  have e2 : min a.e a.e = a.e := by omega
  refine ⟨⟨h, by omega⟩, ?_⟩
  unfold Ar.part
  rw [e1, e2, pg_self h4, upg_self h.ep]
  rfl
/-- An area that is cut goes on from one part in the other. -/
theorem goes_cut (h : Formed a) {x : Int} (h1 : a.s < x) (h2 : x < a.e) (h4 : x % 4096 = 0) : GoesA { a with e := x } (a.from x) := by
  refine ⟨formed_head h h1 (by omega) h4, formed_tail h (by omega) h2 h4, rfl, rfl, rfl, rfl, fun hb => ?_⟩
  rw [from_off, if_neg hb]

/-- A part, where both ends are whole pages. -/
theorem part_at (h : Formed a) {lo hi : Int} (h1 : lo % 4096 = 0) (h2 : hi % 4096 = 0) : a.part lo hi = { a.from (max lo a.s) with e := min hi a.e } := by
  have g1 := h.sp
  have g2 := h.ep
  unfold Ar.part
  rw [pg_self (by omega), upg_self (by omega)]
/-- A part of a part. -/
theorem part_part (h : Formed a) {lo hi fr too : Int} (h1 : lo % 4096 = 0) (h2 : hi % 4096 = 0) (h3 : fr % 4096 = 0) (h4 : too % 4096 = 0) (hp : PartA a lo hi) :
    (PartA (a.part lo hi) fr too ↔ PartA a (max lo fr) (min hi too)) ∧ (a.part lo hi).part fr too = a.part (max lo fr) (min hi too) := by
  have g1 := h.sp
  have g2 := h.ep
  have hs := hp.some
  have hf : Formed (a.part lo hi) := by
    rw [part_at h h1 h2]
    exact formed_sub h (by omega) (by omega) (by omega) (by omega) (by omega)
  constructor
  · rw [part_at h h1 h2] at hf ⊢
    constructor
    · intro k
      refine ⟨h, ?_⟩
      have := k.some
      simp only [Ar.from] at this
      omega
    · intro k
      refine ⟨hf, ?_⟩
      have := k.some
      simp only [Ar.from]
      omega
  · rw [part_at hf h3 h4, part_at (lo := max lo fr) (hi := min hi too) h (by omega) (by omega), part_at h h1 h2]
    apply Ar.ext'
    · show max fr (max lo a.s) = max (max lo fr) a.s
      omega
    · show min too (min hi a.e) = min (min hi too) a.e
      omega
    · rfl
    · rfl
    · rfl
    · show (if a.bk = 0 then (if a.bk = 0 then a.off else a.off + (max lo a.s - a.s)) else (if a.bk = 0 then a.off else a.off + (max lo a.s - a.s)) + (max fr (max lo a.s) - max lo a.s)) = if a.bk = 0 then a.off else a.off + (max (max lo fr) a.s - a.s)
      by_cases hb : a.bk = 0
      · simp only [if_pos hb]
      · simp only [if_neg hb]
        omega
theorem no_part (h : Formed a) {lo hi fr too : Int} (hp : ¬ PartA a lo hi) : ¬ PartA a (max lo fr) (min hi too) := by
  intro k
  have := k.some
  exact hp ⟨h, by omega⟩
end
end Go.Proofs.Ytejkhnphplpkeaa

/-
  Variables of a call, each in a block of its own, that a call which only tells leaves alone.
-/
namespace Go.Proofs.Ytejkhnphplpkeaa
open Go.RowKit

/-- From w on, all that has turned is new; and these variables hold what they hold. -/
structure Bag (w wr : World) (l : List (Nat × TypeId × Array Value)) : Prop where
  all : ∀ x ∈ l, Whole wr x.1 x.2.1 x.2.2
  bel : Below w.heap.size w wr
section
variable {w wr w' : World} {l : List (Nat × TypeId × Array Value)}
theorem Bag.new (w : World) : Bag w w [] := ⟨(fun _ h => by cases h), Below.refl _ _⟩
theorem Bag.add (h : Bag w wr l) (t : TypeId) (cs : Array Value) : Bag w (wr.alloc (.cells cs t)) ((wr.heap.size, t, cs) :: l) := by
  refine ⟨fun x hx => ?_, h.bel.alloc h.bel.size _⟩
  rcases List.mem_cons.1 hx with rfl | hx
  · exact Whole.new _ _ _
  · exact (h.all x hx).alloc _
theorem Bag.two (w : World) (t t' : TypeId) (cs cs' : Array Value) : Bag w ((w.alloc (.cells cs t)).alloc (.cells cs' t')) [(w.heap.size + 1, t', cs'), (w.heap.size, t, cs)] := by
  have h := ((Bag.new w).add t cs).add t' cs'
  simpa using h
theorem Bag.still (h : Bag w wr l) (hb : Below wr.heap.size wr w') : Bag w w' l :=
  ⟨fun x hx => (h.all x hx).below hb (h.all x hx).lt, h.bel.trans (hb.mono h.bel.size)⟩
theorem Bag.drew (h : Bag w wr l) : Bag w wr.drew l := ⟨fun x hx => h.all x hx, below_drew h.bel⟩
theorem Bag.drewN (h : Bag w wr l) (n : Nat) : Bag w (wr.drewN n) l := ⟨fun x hx => h.all x hx, below_drewN h.bel n⟩
/-! The variables, from the last one that was laid. -/
theorem Bag.v0 {q : Nat} {t : TypeId} {cs : Array Value} (h : Bag w wr ((q, t, cs) :: l)) : Whole wr q t cs := h.all (q, t, cs) (by simp)
theorem Bag.v1 {x0 : Nat × TypeId × Array Value} {q : Nat} {t : TypeId} {cs : Array Value} (h : Bag w wr (x0 :: (q, t, cs) :: l)) : Whole wr q t cs := h.all (q, t, cs) (by simp)
theorem Bag.v2 {x0 : Nat × TypeId × Array Value} {x1 : Nat × TypeId × Array Value} {q : Nat} {t : TypeId} {cs : Array Value} (h : Bag w wr (x0 :: x1 :: (q, t, cs) :: l)) : Whole wr q t cs := h.all (q, t, cs) (by simp)
theorem Bag.v3 {x0 : Nat × TypeId × Array Value} {x1 : Nat × TypeId × Array Value} {x2 : Nat × TypeId × Array Value} {q : Nat} {t : TypeId} {cs : Array Value} (h : Bag w wr (x0 :: x1 :: x2 :: (q, t, cs) :: l)) : Whole wr q t cs := h.all (q, t, cs) (by simp)
theorem Bag.v4 {x0 : Nat × TypeId × Array Value} {x1 : Nat × TypeId × Array Value} {x2 : Nat × TypeId × Array Value} {x3 : Nat × TypeId × Array Value} {q : Nat} {t : TypeId} {cs : Array Value} (h : Bag w wr (x0 :: x1 :: x2 :: x3 :: (q, t, cs) :: l)) : Whole wr q t cs := h.all (q, t, cs) (by simp)
theorem Bag.v5 {x0 : Nat × TypeId × Array Value} {x1 : Nat × TypeId × Array Value} {x2 : Nat × TypeId × Array Value} {x3 : Nat × TypeId × Array Value} {x4 : Nat × TypeId × Array Value} {q : Nat} {t : TypeId} {cs : Array Value} (h : Bag w wr (x0 :: x1 :: x2 :: x3 :: x4 :: (q, t, cs) :: l)) : Whole wr q t cs := h.all (q, t, cs) (by simp)
theorem Bag.v6 {x0 : Nat × TypeId × Array Value} {x1 : Nat × TypeId × Array Value} {x2 : Nat × TypeId × Array Value} {x3 : Nat × TypeId × Array Value} {x4 : Nat × TypeId × Array Value} {x5 : Nat × TypeId × Array Value} {q : Nat} {t : TypeId} {cs : Array Value} (h : Bag w wr (x0 :: x1 :: x2 :: x3 :: x4 :: x5 :: (q, t, cs) :: l)) : Whole wr q t cs := h.all (q, t, cs) (by simp)
theorem Bag.v7 {x0 : Nat × TypeId × Array Value} {x1 : Nat × TypeId × Array Value} {x2 : Nat × TypeId × Array Value} {x3 : Nat × TypeId × Array Value} {x4 : Nat × TypeId × Array Value} {x5 : Nat × TypeId × Array Value} {x6 : Nat × TypeId × Array Value} {q : Nat} {t : TypeId} {cs : Array Value} (h : Bag w wr (x0 :: x1 :: x2 :: x3 :: x4 :: x5 :: x6 :: (q, t, cs) :: l)) : Whole wr q t cs := h.all (q, t, cs) (by simp)
theorem Bag.tail {x : Nat × TypeId × Array Value} (h : Bag w wr (x :: l)) : Bag w wr l := ⟨fun y hy => h.all y (List.mem_cons_of_mem _ hy), h.bel⟩
theorem Bag.only (h : Bag w wr l) {S : Nat → Prop} (ho : Only S wr w') (hS : ∀ x ∈ l, ¬ S x.1) (hn : ∀ k, S k → w.heap.size ≤ k) : Bag w w' l :=
  ⟨fun x hx => (h.all x hx).only ho (hS x hx), h.bel.trans (ho.below hn h.bel.size)⟩
end
theorem row4 {w : World} {q : Nat} {t : TypeId} {a b c d : Value} (h : Whole w q t #[a, b, c, d]) : w.cell? ⟨q, 0, none⟩ = some a ∧ w.cell? ⟨q, 1, none⟩ = some b ∧ w.cell? ⟨q, 2, none⟩ = some c ∧ w.cell? ⟨q, 3, none⟩ = some d :=
  ⟨h.cell 0, h.cell 1, h.cell 2, h.cell 3⟩
theorem row6 {w : World} {q : Nat} {t : TypeId} {a b c d e f : Value} (h : Whole w q t #[a, b, c, d, e, f]) : w.cell? ⟨q, 0, none⟩ = some a ∧ w.cell? ⟨q, 1, none⟩ = some b ∧ w.cell? ⟨q, 2, none⟩ = some c ∧ w.cell? ⟨q, 3, none⟩ = some d ∧ w.cell? ⟨q, 4, none⟩ = some e ∧ w.cell? ⟨q, 5, none⟩ = some f :=
  ⟨h.cell 0, h.cell 1, h.cell 2, h.cell 3, h.cell 4, h.cell 5⟩
end Go.Proofs.Ytejkhnphplpkeaa

/-
  Rows of our own: slices that a call has made, and what leaves them as they are.
-/
namespace Go.Proofs.Ytejkhnphplpkeaa
open Go.RowKit
section
variable {w w' : World} {base b : Nat} {e e' t : TypeId} {size n n' : Nat} {v v' : Value} {xs xs' : List Value} {cs : Array Value}

theorem own_slice (h : w.ownsRow base e size v n xs) : ∃ A c, v = .slice A n c := by
  rcases h.2 with ⟨rfl, rfl⟩ | ⟨g, cap, cur, rfl, _⟩
  · exact ⟨_, _, rfl⟩
  · exact ⟨_, _, rfl⟩
theorem Whole.grown {row : Option Nat} (h : Whole w b t cs) (hb : w.grownBy w' row) (hg : some b ≠ row) : Whole w' b t cs := (hb.block b h.lt hg).trans h
theorem own_apart (h : w.ownsRow base e size v n xs) (hb : Whole w b t cs) (hne : e ≠ t) : v.ownBlock ≠ some b := by
  rcases h.2 with ⟨rfl, _⟩ | ⟨g', cap, cur, rfl, _, hh, _⟩
  · simp [Value.ownBlock]
  · intro he
    have : g' = b := by simpa [Value.ownBlock] using he
    subst this
    exact Whole.apart (t := e) hh hb hne rfl
theorem own_rows {size' base' : Nat} (h : w.ownsRow base e size v n xs) (h' : w.ownsRow base' e' size' v' n' xs') (hne : e ≠ e') (k : Nat) (hk : v.ownBlock = some k) : v'.ownBlock ≠ some k := by
  rcases h.2 with ⟨rfl, _⟩ | ⟨g', cap, cur, rfl, _, hh, _⟩
  · simp [Value.ownBlock] at hk
  · have : g' = k := by simpa [Value.ownBlock] using hk
    subst this
    exact own_apart (t := e) (cs := cur) h' hh (Ne.symm hne)
theorem own_only {S : Nat → Prop} (h : w.ownsRow base e size v n xs) (ho : Only S w w') (hS : ∀ k, v.ownBlock = some k → ¬ S k) : w'.ownsRow base e size v n xs := by
  refine ⟨h.1, ?_⟩
  rcases h.2 with h2 | ⟨g, cap, cur, rfl, hg, hh, r⟩
  · exact .inl h2
  · exact .inr ⟨g, cap, cur, rfl, hg, (Whole.only (t := e) (cs := cur) hh ho (hS g rfl)), r⟩
theorem own_kept {size' base' : Nat} (h : w.ownsRow base e size v n xs) (h' : w.ownsRow base' e' size' v' n' xs') (hg : w.grownBy w' v'.ownBlock) (hne : e ≠ e') : w'.ownsRow base e size v n xs := by
  refine h.kept hg ?_
  cases hv : v.ownBlock with
  | none => exact .inl rfl
  | some k => exact .inr (fun he => own_rows h h' hne k hv he.symm)
theorem own_still (h : w.ownsRow base e size v n xs) (hb : Below w.heap.size w w') : w'.ownsRow base e size v n xs := own_only h (Only.of_below hb (fun _ => False)) (fun _ _ => id)
theorem own_far {p : Addr} (h : w.ownsRow base e size v n xs) (hp : v.ownBlock ≠ some p.block) (u : Value) : (w.setCell p u).ownsRow base e size v n xs :=
  own_only (S := fun k => k = p.block) h ((Only.refl (fun k => k = p.block) w).setCell (p := p) (.inl rfl) u) (fun k hk he => by subst he; exact hp hk)
theorem own_drewN (h : w.ownsRow base e size v n xs) (m : Nat) : (w.drewN m).ownsRow base e size v n xs := h
theorem own_base {base' : Nat} (h : w.ownsRow base e size v n xs) (hb : base' ≤ base) : w.ownsRow base' e size v n xs := by
  refine ⟨h.1, ?_⟩
  rcases h.2 with h2 | ⟨g, cap, cur, rfl, hg, r⟩
  · exact .inl h2
  · exact .inr ⟨g, cap, cur, rfl, Nat.le_trans hb hg, r⟩
theorem own_form {A : Option Addr} {c : Nat} (h : w.ownsRow base e size (.slice A n c) n xs) (hn : 0 < n) : ∃ g, A = some ⟨g, 0, none⟩ ∧ base ≤ g ∧ g < w.heap.size := by
  rcases h.2 with ⟨_, h0⟩ | ⟨g, cap, cur, hv, hb, hh, _⟩
  · omega
  · injection hv with h1
    exact ⟨g, h1, hb, Whole.lt (t := e) hh⟩
theorem own_int {g c : Nat} {l : List Int} (h : w.ownsRow base e 1 (.slice (some ⟨g, 0, none⟩) l.length c) l.length (l.map (Value.int .i64))) (i : Nat) (hi : i < l.length) : w.cell? ⟨g, i, none⟩ = some (.int .i64 (nth l i)) := by
  rw [h.cellAt i (by omega), List.getElem?_map, nth, List.getD_eq_getElem?_getD, List.getElem?_eq_getElem hi]
  rfl
end

theorem quietly {P : Program} {f : FuncId} {args : Array Value} {w : World} {n : Nat} {v : Value} (h : Calls P f args (w.drewN n) fun e w' => e = .returned v ∧ w.drewN n = w') :
    Calls P f args (w.drewN n) fun e w'' => e = .returned v ∧ ∃ m, w'' = w.drewN m := h.mono fun _ _ ⟨he, hm⟩ => ⟨he, n, hm.symm⟩
end Go.Proofs.Ytejkhnphplpkeaa
