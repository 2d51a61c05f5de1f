/-
  Layer 2: what each call on an arena does, as a contract over what is known of its slots.
-/
import Derived.Test.YtlgaihlbfjndhaaRows
import Derived.Test.YtlgaihlbfjndhaaArenaMath
import Derived.WalkKit
import Derived.ProofKit
import Derived.OpenShut
import Derived.WalkSpells
import Derived.WalkLawsBesides
import Derived.Deep.OwnRows
import Derived.Lib.Hide
import Derived.BigQuiet
import Derived.Deep.QuietTactic
import Derived.Deep.DeepCutAuto
import Derived.StillTailTactics
namespace Go.Proofs.Ytlgaihlbfjndhaa
open Go.ChangeShapes Go.WideShapes Go.ChangeAt Go.RowKit
set_option linter.unusedVariables false

/-- An arena: its struct in block b, what is known of its slots in block g. -/
structure ArAt (w : World) (b g : Nat) (fst : Int) (l : Slots) (st db : Bool) : Prop where
  top : Whole w b 50 #[.int .i64 fst, .slice (some ⟨g, 0, none⟩) l.length l.length, .bool st, .bool db]
  row : Whole w g 54 (stc l).toArray
  few : l.length ≤ 1000
  lo : 0 ≤ fst
  hi : fst ≤ 65536

/-- The blocks of an arena. -/
def ArTwo (b g : Nat) (k : Nat) : Prop := k = b ∨ k = g

section
variable {w w' : World} {b g : Nat} {fst : Int} {l : Slots} {st db : Bool}
theorem ArAt.ne (h : ArAt w b g fst l st db) : b ≠ g := h.top.apart h.row (by decide)
theorem ArAt.c0 (h : ArAt w b g fst l st db) : w.cell? ⟨b, 0, none⟩ = some (.int .i64 fst) := by rw [h.top.cell]; rfl
theorem ArAt.c1 (h : ArAt w b g fst l st db) : w.cell? ⟨b, 1, none⟩ = some (.slice (some ⟨g, 0, none⟩) l.length l.length) := by rw [h.top.cell]; rfl
theorem ArAt.c2 (h : ArAt w b g fst l st db) : w.cell? ⟨b, 2, none⟩ = some (.bool st) := by rw [h.top.cell]; rfl
theorem ArAt.c3 (h : ArAt w b g fst l st db) : w.cell? ⟨b, 3, none⟩ = some (.bool db) := by rw [h.top.cell]; rfl
theorem ArAt.fr (h : ArAt w b g fst l st db) (i : Nat) : w.frozen? ⟨b, i, none⟩ = false := h.top.frozen i
theorem ArAt.gen (h : ArAt w b g fst l st db) (i : Nat) (hi : i < l.length) : w.cell? ⟨g, i * 2, none⟩ = some (.int .i64 (genAt l i)) := by rw [h.row.cell, List.getElem?_toArray]; exact stc_gen l i hi
theorem ArAt.live (h : ArAt w b g fst l st db) (i : Nat) (hi : i < l.length) : w.cell? ⟨g, i * 2 + 1, none⟩ = some (.bool (liveAt l i)) := by rw [h.row.cell, List.getElem?_toArray]; exact stc_live l i hi
theorem ArAt.frg (h : ArAt w b g fst l st db) (i : Nat) : w.frozen? ⟨g, i, none⟩ = false := h.row.frozen i
theorem ArAt.only {S : Nat → Prop} (h : ArAt w b g fst l st db) (ho : Only S w w') (hb : ¬ S b) (hg : ¬ S g) : ArAt w' b g fst l st db :=
  ⟨h.top.only ho hb, h.row.only ho hg, h.few, h.lo, h.hi⟩
theorem ArAt.still (h : ArAt w b g fst l st db) (hb : Below w.heap.size w w') : ArAt w' b g fst l st db := h.only (Only.of_below hb (fun _ => False)) id id
theorem ArAt.alloc (h : ArAt w b g fst l st db) (o : Obj) : ArAt (w.alloc o) b g fst l st db := ⟨h.top.alloc o, h.row.alloc o, h.few, h.lo, h.hi⟩
theorem ArAt.drewN (h : ArAt w b g fst l st db) (n : Nat) : ArAt (w.drewN n) b g fst l st db := ⟨h.top, h.row, h.few, h.lo, h.hi⟩
theorem ArAt.stale (h : ArAt w b g fst l st db) (v : Bool) : ArAt (w.setCell ⟨b, 2, none⟩ (.bool v)) b g fst l v db :=
  ⟨h.top.put 2 _, h.row.far (Ne.symm h.ne) _, h.few, h.lo, h.hi⟩
theorem ArAt.double (h : ArAt w b g fst l st db) (v : Bool) : ArAt (w.setCell ⟨b, 3, none⟩ (.bool v)) b g fst l st v :=
  ⟨h.top.put 3 _, h.row.far (Ne.symm h.ne) _, h.few, h.lo, h.hi⟩
theorem ArAt.ltb (h : ArAt w b g fst l st db) : b < w.heap.size := h.top.lt
theorem ArAt.ltg (h : ArAt w b g fst l st db) : g < w.heap.size := h.row.lt
theorem ArAt.put (h : ArAt w b g fst l st db) (i : Nat) (x : Int) (v : Bool) : ArAt ((w.setCell ⟨g, i * 2, none⟩ (.int .i64 x)).setCell ⟨g, i * 2 + 1, none⟩ (.bool v)) b g fst (l.set i (x, v)) st db := by
  refine ⟨?_, ?_, by rw [List.length_set]; exact h.few, h.lo, h.hi⟩
  · rw [List.length_set]; exact (h.top.far h.ne _).far h.ne _
  · have := (h.row.put (i * 2) (.int .i64 x)).put (i * 2 + 1) (.bool v)
    rw [List.setIfInBounds_toArray, List.setIfInBounds_toArray, stc_set] at this
    exact this
end

theorem slot_any (h : Int) (w : World) (hh : h ≤ 9223372036854775807) :
    Calls Try.prog 21 #[.int .i64 h] w fun e w' => e = .returned (.int .i64 (slotOf h)) ∧ w = w' := by
  by_cases h0 : h < 0
  · have HS := Lib.hid (slotOf_neg h0)
    go_enter Try.func21, Try.ntmps21
    go_wp2
    go_ret
    exact ⟨by rw [HS.out]; rfl, rfl⟩
  · have hp : 0 ≤ h := by omega
    have HS := Lib.hid (slotOf_pos hp)
    have HA := Lib.hid (and_low hp hh)
    go_enter Try.func21, Try.ntmps21
    go_wp2
    go_ret
    exact ⟨by rw [HS.out, HA.out]; rfl, rfl⟩

theorem handle_any (s g : Int) (w : World) (h0 : 0 ≤ g) (h1 : g ≤ 1099511627776) (h2 : 0 ≤ s) (h3 : s < 65536) :
    Calls Try.prog 27 #[.int .i64 s, .int .i64 g] w fun e w' => e = .returned (.int .i64 (g * 65536 + s)) ∧ w = w' := by
  have HA := Lib.hid (or_up h0 h1 h2 h3)
  go_enter Try.func27, Try.ntmps27
  go_wp2
  go_ret
  exact ⟨by rw [← HA.out]; rfl, rfl⟩

theorem has_yes (b g n : Nat) (s : Int) (w : World) (hc : w.cell? ⟨b, 1, none⟩ = some (.slice (some ⟨g, 0, none⟩) n n)) (h0 : 1 ≤ s) (h1 : s ≤ n) :
    Calls Try.prog 26 #[.pointer (some ⟨b, 0, none⟩), .int .i64 s] w fun e w' => e = .returned (.bool true) ∧ w = w' := by
  go_enter Try.func26, Try.ntmps26
  go_wp2
  go_ret
  exact ⟨rfl, rfl⟩
theorem has_no (b g n : Nat) (s : Int) (w : World) (hc : w.cell? ⟨b, 1, none⟩ = some (.slice (some ⟨g, 0, none⟩) n n)) (h : s < 1 ∨ n < s) :
    Calls Try.prog 26 #[.pointer (some ⟨b, 0, none⟩), .int .i64 s] w fun e w' => e = .returned (.bool false) ∧ w = w' := by
  rcases h with h | h
  · go_enter Try.func26, Try.ntmps26
    go_wp2
    go_ret
    exact ⟨rfl, rfl⟩
  · have h' : 1 ≤ s := by omega
    have hd : decide (s ≤ (n : Int)) = false := by simp; omega
    go_enter Try.func26, Try.ntmps26
    go_wp2
    go_ret
    exact ⟨rfl, rfl⟩

theorem slots_any (b g n : Nat) (w : World) (hc : w.cell? ⟨b, 1, none⟩ = some (.slice (some ⟨g, 0, none⟩) n n)) :
    Calls Try.prog 18 #[.pointer (some ⟨b, 0, none⟩)] w fun e w' => e = .returned (.int .i64 n) ∧ w = w' := by
  go_enter Try.func18, Try.ntmps18
  go_wp2
  go_ret
  exact ⟨rfl, rfl⟩
theorem stale_any (b : Nat) (v : Bool) (w : World) (hc : w.cell? ⟨b, 2, none⟩ = some (.bool v)) :
    Calls Try.prog 24 #[.pointer (some ⟨b, 0, none⟩)] w fun e w' => e = .returned (.bool v) ∧ w = w' := by
  go_enter Try.func24, Try.ntmps24
  go_wp2
  go_ret
  exact ⟨rfl, rfl⟩
theorem double_any (b : Nat) (v : Bool) (w : World) (hc : w.cell? ⟨b, 3, none⟩ = some (.bool v)) :
    Calls Try.prog 25 #[.pointer (some ⟨b, 0, none⟩)] w fun e w' => e = .returned (.bool v) ∧ w = w' := by
  go_enter Try.func25, Try.ntmps25
  go_wp2
  go_ret
  exact ⟨rfl, rfl⟩
end Go.Proofs.Ytlgaihlbfjndhaa
