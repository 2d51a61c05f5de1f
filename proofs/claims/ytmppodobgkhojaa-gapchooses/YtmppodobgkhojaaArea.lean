/-
  Layer 6: areas as values, and a contract for each call that tells of one.
-/
import Derived.Test.YtmppodobgkhojaaRows
import Derived.Test.YtmppodobgkhojaaOwn
import Derived.WalkKit
import Derived.ProofKit
import Derived.OpenShut
import Derived.WalkSpells
import Derived.WalkLawsBesides
import Derived.Deep.OwnRows
import Derived.Lib.Hide
namespace Go.Proofs.Ytmppodobgkhojaa
open Go.ChangeShapes Go.WideShapes Go.ChangeAt Go.RowKit
set_option linter.unusedVariables false

/-- An area, by its six fields. -/
structure Ar where
  s : Int
  e : Int
  p : Int
  sh : Bool
  bk : Int
  off : Int

/-- As the program has it. -/
def Ar.v (a : Ar) : Value := .agg #[.int .i64 a.s, .int .i64 a.e, .int .i64 a.p, .bool a.sh, .int .i64 a.bk, .int .i64 a.off]

structure Placed (a : Ar) : Prop where
  sp : a.s.tmod 4096 = 0
  ep : a.e.tmod 4096 = 0
  lo : 65536 ≤ a.s
  some : a.s < a.e
  hi : a.e ≤ 2097152
/-- What its backing must be. -/
structure Backed (a : Ar) : Prop where
  none : a.bk = 0 → a.off = 0
  some : a.bk ≠ 0 → (0 < a.bk ∧ a.bk ≤ 9) ∧ a.off.tmod 4096 = 0 ∧ 0 ≤ a.off ∧ a.off ≤ 1099511627776 - (a.e - a.s)
structure Formed (a : Ar) : Prop where
  placed : Placed a
  backed : Backed a
  p0 : 0 ≤ a.p
  p7 : a.p ≤ 7

instance (a : Ar) : Decidable (Placed a) := decidable_of_iff (a.s.tmod 4096 = 0 ∧ a.e.tmod 4096 = 0 ∧ 65536 ≤ a.s ∧ a.s < a.e ∧ a.e ≤ 2097152) ⟨fun ⟨a, b, c, d, e⟩ => ⟨a, b, c, d, e⟩, fun ⟨a, b, c, d, e⟩ => ⟨a, b, c, d, e⟩⟩
instance (a : Ar) : Decidable (Backed a) := decidable_of_iff ((a.bk = 0 → a.off = 0) ∧ (a.bk ≠ 0 → (0 < a.bk ∧ a.bk ≤ 9) ∧ a.off.tmod 4096 = 0 ∧ 0 ≤ a.off ∧ a.off ≤ 1099511627776 - (a.e - a.s))) ⟨fun ⟨a, b⟩ => ⟨a, b⟩, fun ⟨a, b⟩ => ⟨a, b⟩⟩
instance (a : Ar) : Decidable (Formed a) := decidable_of_iff (Placed a ∧ Backed a ∧ 0 ≤ a.p ∧ a.p ≤ 7) ⟨fun ⟨a, b, c, d⟩ => ⟨a, b, c, d⟩, fun ⟨a, b, c, d⟩ => ⟨a, b, c, d⟩⟩

/-- r tells whether P. -/
def Tells (r : Bool) (P : Prop) : Prop := r = true ↔ P
theorem Tells.yes {r : Bool} {P : Prop} (h : Tells r P) (p : P) : r = true := h.2 p
theorem Tells.no {r : Bool} {P : Prop} (h : Tells r P) (p : ¬ P) : r = false := by
  cases r with
  | false => rfl
  | true => exact absurd (h.1 rfl) p

theorem Tells.is {r x : Bool} {P : Prop} (h : Tells r P) (k : x = true ↔ P) : x = r := by
  rw [Bool.eq_iff_iff]; exact k.trans h.symm

/-- A call that only tells of what it is handed: it answers v, and what it makes is new. -/
def Says (f : Nat) (args : Array Value) (v : Value) : Prop := ∀ w : World, Calls Try.prog f args w fun e w' => e = .returned v ∧ Below w.heap.size w w'

theorem says_bool {x r : Bool} (h : x = r) : Ending.returned (.bool x) = .returned (.bool r) := by rw [h]

set_option maxHeartbeats 1000000 in
theorem placed_any (a : Ar) {r : Bool} (hr : Tells r (Placed a)) : Says 44 #[a.v] (.bool r) := by
  intro w
  have HR := Lib.hid hr
  clear hr
  obtain ⟨s, e, p, sh, bk, off⟩ := a
  unfold Ar.v
  go_enter Try.func44, Try.ntmps44
  go_wp2
  all_goals
    go_ret
    refine ⟨says_bool (HR.out.is ⟨fun h => ?_, fun h => ?_⟩), (Below.refl _ _).alloc (Nat.le_refl _) _⟩
    · simp at h
      try exact ⟨by assumption, by assumption, by assumption, by assumption, h⟩
      try omega
    · obtain ⟨h1, h2, h3, h4, h5⟩ := h
      simp only at h1 h2 h3 h4 h5
      simp
      try omega

set_option maxHeartbeats 2000000 in
theorem backed_any (a : Ar) (hp : Placed a) {r : Bool} (hr : Tells r (Backed a)) : Says 45 #[a.v] (.bool r) := by
  intro w
  have HR := Lib.hid hr
  obtain ⟨s, e, p, sh, bk, off⟩ := a
  obtain ⟨h1, h2, h3, h4, h5⟩ := hp
  simp only at h1 h2 h3 h4 h5
  clear hr h1 h2
  unfold Ar.v
  by_cases hb : bk = 0
  · subst hb
    go_enter Try.func45, Try.ntmps45
    go_wp2
    go_ret
    refine ⟨says_bool (HR.out.is ⟨fun h => ?_, fun h => ?_⟩), (Below.refl _ _).alloc (Nat.le_refl _) _⟩
    · simp at h
      exact ⟨fun _ => h, fun h => absurd rfl h⟩
    · simp
      exact h.none rfl
  · go_enter Try.func45, Try.ntmps45
    go_wp2
    all_goals
      go_ret
      refine ⟨says_bool (HR.out.is ⟨fun h => ?_, fun h => ?_⟩), (Below.refl _ _).alloc (Nat.le_refl _) _⟩
      · simp at h
        try exact ⟨fun h => absurd h hb, fun _ => ⟨⟨by omega, by omega⟩, by assumption, by omega, by omega⟩⟩
        try omega
      · obtain ⟨⟨h1, h2⟩, h3, h4, h5⟩ := h.some hb
        simp only at h1 h2 h3 h4 h5
        simp
        try omega

theorem tells_it (P : Prop) [Decidable P] : Tells (decide P) P := by simp [Tells]

/-- As cells. -/
def Ar.cells (a : Ar) : Array Value := #[.int .i64 a.s, .int .i64 a.e, .int .i64 a.p, .bool a.sh, .int .i64 a.bk, .int .i64 a.off]
/-- A variable that holds an area. -/
def ArIn (w : World) (q : Nat) (a : Ar) : Prop := Whole w q 35 a.cells
section
variable {w w' : World} {q : Nat} {a : Ar}
theorem ArIn.cs (h : ArIn w q a) : w.cell? ⟨q, 0, none⟩ = some (.int .i64 a.s) ∧ w.cell? ⟨q, 1, none⟩ = some (.int .i64 a.e) ∧ w.cell? ⟨q, 2, none⟩ = some (.int .i64 a.p) ∧
    w.cell? ⟨q, 3, none⟩ = some (.bool a.sh) ∧ w.cell? ⟨q, 4, none⟩ = some (.int .i64 a.bk) ∧ w.cell? ⟨q, 5, none⟩ = some (.int .i64 a.off) :=
  ⟨Whole.cell h 0, Whole.cell h 1, Whole.cell h 2, Whole.cell h 3, Whole.cell h 4, Whole.cell h 5⟩
theorem ArIn.new (w : World) (a : Ar) : ArIn (w.alloc (.cells a.cells 35)) w.heap.size a := Whole.new w _ _
theorem ArIn.still {B : Nat} (h : ArIn w q a) (hb : Below B w w') (hq : q < B) : ArIn w' q a := Whole.below h hb hq
end
theorem below_new (w : World) (o : Obj) : Below w.heap.size w (w.alloc o) := (Below.refl _ _).alloc (Nat.le_refl _) _
theorem below_new2 (w : World) (o o' : Obj) : Below w.heap.size w ((w.alloc o).alloc o') := (below_new w o).alloc (by simp) _
theorem below_then {w w1 w2 : World} {B : Nat} (h : Below B w w1) (k : Below w1.heap.size w1 w2) (hB : B ≤ w.heap.size) : Below B w w2 := h.trans (k.mono (Nat.le_trans hB h.size))

set_option maxHeartbeats 1000000 in
theorem formed_any (a : Ar) : Says 30 #[a.v] (.bool (decide (Formed a))) := by
  intro w
  have HR := Lib.hid (tells_it (Formed a))
  generalize decide (Formed a) = r at *
  have A0 := Lib.hid (ArIn.new w a)
  by_cases hp : Placed a
  · have X1 := Lib.hid (placed_any a (r := true) ⟨fun _ => hp, fun _ => rfl⟩)
    by_cases hb : Backed a
    · have X2 := Lib.hid (backed_any a hp (r := true) ⟨fun _ => hb, fun _ => rfl⟩)
      have HP := Lib.hid hp
      have HB := Lib.hid hb
      clear hp hb
      obtain ⟨s, t, p, sh, bk, off⟩ := a
      unfold Ar.v at *
      go_enter Try.func30, Try.ntmps30
      go_wp2_with fail
      refine (X1.out _).mono ?_
      rintro e w1 ⟨rfl, hb1⟩
      have B1 := Lib.hid (below_then (below_new w _) hb1 (Nat.le_refl _))
      have A1 := Lib.hid (A0.out.still hb1 (by simp))
      obtain ⟨c0, c1, c2, c3, c4, c5⟩ := A1.out.cs
      clear hb1
      go_wp2_with fail
      refine (X2.out _).mono ?_
      rintro e w2 ⟨rfl, hb2⟩
      have B2 := Lib.hid (below_then B1.out hb2 (Nat.le_refl _))
      have A2 := Lib.hid (A1.out.still hb2 (Whole.lt A1.out))
      have c2' := A2.out.cs.2.2.1
      clear hb2 c0 c1 c2 c3 c4 c5
      go_wp2
      all_goals
        go_ret
        refine ⟨says_bool (HR.out.is ⟨fun h => ?_, fun h => ?_⟩), B2.out⟩
        · simp at h
          try exact ⟨HP.out, HB.out, by assumption, by assumption⟩
        · have h1 := h.p0
          have h2 := h.p7
          simp only at h1 h2
          simp
          omega
    · have X2 := Lib.hid (backed_any a hp (r := false) ⟨(fun h => by cases h), fun h => absurd h hb⟩)
      have HN : Hid (¬ Formed a) := fun h => hb h.backed
      clear hp hb
      obtain ⟨s, t, p, sh, bk, off⟩ := a
      unfold Ar.v at *
      go_enter Try.func30, Try.ntmps30
      go_wp2_with fail
      refine (X1.out _).mono ?_
      rintro e w1 ⟨rfl, hb1⟩
      have B1 := Lib.hid (below_then (below_new w _) hb1 (Nat.le_refl _))
      have A1 := Lib.hid (A0.out.still hb1 (by simp))
      obtain ⟨c0, c1, c2, c3, c4, c5⟩ := A1.out.cs
      clear hb1
      go_wp2_with fail
      refine (X2.out _).mono ?_
      rintro e w2 ⟨rfl, hb2⟩
      have B2 := Lib.hid (below_then B1.out hb2 (Nat.le_refl _))
      clear hb2
      go_wp2_with fail
      go_ret
      exact ⟨says_bool (HR.out.no HN.out).symm, B2.out⟩
  · have X1 := Lib.hid (placed_any a (r := false) ⟨(fun h => by cases h), fun h => absurd h hp⟩)
    have HN : Hid (¬ Formed a) := fun h => hp h.placed
    clear hp
    obtain ⟨s, t, p, sh, bk, off⟩ := a
    unfold Ar.v at *
    go_enter Try.func30, Try.ntmps30
    go_wp2_with fail
    refine (X1.out _).mono ?_
    rintro e w1 ⟨rfl, hb1⟩
    have B1 := Lib.hid (below_then (below_new w _) hb1 (Nat.le_refl _))
    clear hb1
    go_wp2_with fail
    go_ret
    exact ⟨says_bool (HR.out.no HN.out).symm, B1.out⟩

theorem tmod_up {x : Int} (h : 0 ≤ x) : x.tmod 4096 = x % 4096 := Int.tmod_eq_emod_of_nonneg h
theorem down_any (x : Int) (h0 : 0 ≤ x) (h1 : x ≤ 9223372036854775807) (w : World) : Calls Try.prog 57 #[.int .i64 x] w fun e w' => e = .returned (.int .i64 (x - x % 4096)) ∧ w' = w := by
  have hm : x.tmod 4096 = x % 4096 := tmod_up h0
  have h2 : 0 ≤ x % 4096 := by omega
  have h3 : x % 4096 ≤ x := by omega
  go_enter Try.func57, Try.ntmps57
  go_wp2
  go_ret
  exact ⟨rfl, rfl⟩
theorem up_any (x : Int) (h0 : 0 ≤ x) (h1 : x ≤ 9223372036854771000) (w : World) : Calls Try.prog 58 #[.int .i64 x] w fun e w' => e = .returned (.int .i64 (x + 4095 - (x + 4095) % 4096)) ∧ w' = w := by
  have X := Lib.hid (down_any (x + 4095) (by omega) (by omega))
  have hx : x + 4095 = x + 4096 - 1 := by omega
  rw [hx] at X ⊢
  clear hx
  go_enter Try.func58, Try.ntmps58
  go_wp2_with fail
  refine (X.out w).mono ?_
  rintro e w1 ⟨rfl, rfl⟩
  go_wp2
  go_ret
  exact ⟨rfl, rfl⟩

/-- An area with another start, and the offset that belongs to it. -/
def Ar.from (a : Ar) (x : Int) : Ar := { a with s := x, off := if a.bk = 0 then a.off else a.off + (x - a.s) }
set_option maxHeartbeats 1000000 in
theorem from_any (a : Ar) (x : Int) (h0 : 0 ≤ a.s) (h1 : a.s ≤ 2097152) (h2 : 0 ≤ x) (h3 : x ≤ 2097152) (h4 : 0 ≤ a.off) (h5 : a.off ≤ 1099511627776) : Says 50 #[a.v, .int .i64 x] (a.from x).v := by
  intro w
  obtain ⟨s, t, p, sh, bk, off⟩ := a
  unfold Ar.v Ar.from
  simp only at *
  by_cases hb : bk = 0
  · subst hb
    go_enter Try.func50, Try.ntmps50
    go_wp2
    refine bodyPost_ret (results_cell_row rfl _ _ (w.heap.size + 1) 35 _ (0, 0) _ rfl (heap_alloc2_new _ _ _) Try.underlying35 rfl (by kernel_rfl)) rfl ?_
    exact ⟨rfl, below_new2 _ _ _⟩
  · go_enter Try.func50, Try.ntmps50
    go_wp2
    refine bodyPost_ret (results_cell_row rfl _ _ (w.heap.size + 1) 35 _ (0, 0) _ rfl (heap_alloc2_new _ _ _) Try.underlying35 rfl (by kernel_rfl)) rfl ?_
    exact ⟨rfl, below_new2 _ _ _⟩

theorem Formed.sp {a : Ar} (h : Formed a) : a.s % 4096 = 0 := by rw [← tmod_up (by have := h.placed.lo; omega)]; exact h.placed.sp
theorem Formed.ep {a : Ar} (h : Formed a) : a.e % 4096 = 0 := by rw [← tmod_up (by have := h.placed.lo; have := h.placed.some; omega)]; exact h.placed.ep
theorem Formed.off0 {a : Ar} (h : Formed a) : 0 ≤ a.off ∧ a.off ≤ 1099511627776 - (a.e - a.s) ∧ a.off % 4096 = 0 := by
  have h1 := h.placed.lo
  have h2 := h.placed.some
  have h3 := h.placed.hi
  by_cases hb : a.bk = 0
  · rw [h.backed.none hb]; omega
  · obtain ⟨_, k1, k2, k3⟩ := h.backed.some hb
    rw [tmod_up k2] at k1
    exact ⟨k2, k3, k1⟩

/-- Whether an address is in an area. -/
structure HasA (a : Ar) (x : Int) : Prop where
  formed : Formed a
  lo : a.s ≤ x
  hi : x < a.e
instance (a : Ar) (x : Int) : Decidable (HasA a x) := decidable_of_iff (Formed a ∧ a.s ≤ x ∧ x < a.e) ⟨fun ⟨a, b, c⟩ => ⟨a, b, c⟩, fun ⟨a, b, c⟩ => ⟨a, b, c⟩⟩

/-- What a page has. -/
structure At where
  p : Int
  sh : Bool
  bk : Int
  off : Int
def At.v (a : At) : Value := .agg #[.int .i64 a.p, .bool a.sh, .int .i64 a.bk, .int .i64 a.off]
def At.nil : At := ⟨0, false, 0, 0⟩
def Ar.nil : Ar := ⟨0, 0, 0, false, 0, 0⟩
/-- Where the page of an address begins. -/
def pg (x : Int) : Int := x - x % 4096
def Ar.attr (a : Ar) (x : Int) : At := ⟨a.p, a.sh, a.bk, (a.from (pg x)).off⟩

end Go.Proofs.Ytmppodobgkhojaa
