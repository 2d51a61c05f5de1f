/-
  Layer 1: what each call on a memory does, as a contract over its cells and its count.
-/
import Derived.Test.YtngihgdcoeokhaaRows
import Derived.Test.YtngihgdcoeokhaaOwn
import Derived.WalkKit
import Derived.ProofKit
import Derived.OpenShut
import Derived.WalkSpells
import Derived.WalkLawsBesides
import Derived.Deep.OwnRows
import Derived.Lib.Hide
namespace Go.Proofs.Ytngihgdcoeokhaa
open Go.ChangeShapes Go.WideShapes Go.ChangeAt Go.RowKit
set_option linter.unusedVariables false

/-- A memory: its struct in block b, its cells in block g. -/
structure MemAt (w : World) (b g : Nat) (cs : List Int) (cnt : Int) : Prop where
  top : Whole w b 57 #[.slice (some ⟨g, 0, none⟩) cs.length cs.length, .int .i64 cnt]
  row : Whole w g 2 (nums cs)
  few : cs.length ≤ 65536
  lo : 0 ≤ cnt
  hi : cnt ≤ 4611686018427387904

/-- The blocks of a memory. -/
def Two (b g : Nat) (k : Nat) : Prop := k = b ∨ k = g

section
variable {w w' : World} {b g : Nat} {cs : List Int} {cnt : Int}
theorem MemAt.ne (h : MemAt w b g cs cnt) : b ≠ g := h.top.apart h.row (by decide)
theorem MemAt.c0 (h : MemAt w b g cs cnt) : w.cell? ⟨b, 0, none⟩ = some (.slice (some ⟨g, 0, none⟩) cs.length cs.length) := by rw [h.top.cell]; rfl
theorem MemAt.c1 (h : MemAt w b g cs cnt) : w.cell? ⟨b, 1, none⟩ = some (.int .i64 cnt) := by rw [h.top.cell]; rfl
theorem MemAt.f1 (h : MemAt w b g cs cnt) : w.frozen? ⟨b, 1, none⟩ = false := h.top.frozen 1
theorem MemAt.cg (h : MemAt w b g cs cnt) (i : Nat) (hi : i < cs.length) : w.cell? ⟨g, i, none⟩ = some (.int .i64 (nth cs i)) := by rw [h.row.cell]; exact nums_at cs i hi
theorem MemAt.fg (h : MemAt w b g cs cnt) (i : Nat) : w.frozen? ⟨g, i, none⟩ = false := h.row.frozen i
theorem MemAt.only {S : Nat → Prop} (h : MemAt w b g cs cnt) (ho : Only S w w') (hb : ¬ S b) (hg : ¬ S g) : MemAt w' b g cs cnt :=
  ⟨h.top.only ho hb, h.row.only ho hg, h.few, h.lo, h.hi⟩
theorem MemAt.count (h : MemAt w b g cs cnt) (hc : cnt + 1 ≤ 4611686018427387904) : MemAt (w.setCell ⟨b, 1, none⟩ (.int .i64 (cnt + 1))) b g cs (cnt + 1) :=
  ⟨h.top.put 1 _, h.row.far (Ne.symm h.ne) _, h.few, by have := h.lo; omega, hc⟩
theorem MemAt.store (h : MemAt w b g cs cnt) (i : Nat) (v : Int) : MemAt (w.setCell ⟨g, i, none⟩ (.int .i64 v)) b g (cs.set i v) cnt :=
  ⟨by rw [List.length_set]; exact h.top.far h.ne _, by have := h.row.put i (.int .i64 v); rw [nums_set] at this; exact this, by rw [List.length_set]; exact h.few, h.lo, h.hi⟩
end

theorem Try.info2' : (Try.prog.info? 2).map (fun i => (i.zero, i.size, i.bytes)) = some (some (.int .i64 0), 1, 8) := by kernel_rfl

theorem find_in (b g n : Nat) (i : Int) (w : World) (hc : w.cell? ⟨b, 0, none⟩ = some (.slice (some ⟨g, 0, none⟩) n n)) (h0 : 0 ≤ i) (h1 : i < n) (hn : n ≤ 65536) :
    Calls Try.prog 25 #[.pointer (some ⟨b, 0, none⟩), .int .i64 i] w fun e w' => e = .returned (.tuple #[.pointer (some ⟨g, i.toNat, none⟩), .bool true]) ∧ w = w' := by
  go_enter Try.func25, Try.ntmps25
  go_wp2
  go_ret2
  exact ⟨rfl, rfl⟩

theorem find_out (b g n : Nat) (i : Int) (w : World) (hc : w.cell? ⟨b, 0, none⟩ = some (.slice (some ⟨g, 0, none⟩) n n)) (h : i < 0 ∨ (n : Int) ≤ i) :
    Calls Try.prog 25 #[.pointer (some ⟨b, 0, none⟩), .int .i64 i] w fun e w' => e = .returned (.tuple #[.pointer none, .bool false]) ∧ w = w' := by
  rcases h with h | h
  · go_enter Try.func25, Try.ntmps25
    go_wp2
    go_ret2
    exact ⟨rfl, rfl⟩
  · have h' : 0 ≤ i := by omega
    go_enter Try.func25, Try.ntmps25
    go_wp2
    go_ret2
    exact ⟨rfl, rfl⟩

theorem access_in (b g n : Nat) (i cnt : Int) (w : World) (hc : w.cell? ⟨b, 0, none⟩ = some (.slice (some ⟨g, 0, none⟩) n n)) (hc1 : w.cell? ⟨b, 1, none⟩ = some (.int .i64 cnt)) (hf1 : w.frozen? ⟨b, 1, none⟩ = false)
    (h0 : 0 ≤ i) (h1 : i < n) (hn : n ≤ 65536) (hl : 0 ≤ cnt) (hu : cnt ≤ 4611686018427387904) :
    Calls Try.prog 26 #[.pointer (some ⟨b, 0, none⟩), .int .i64 i] w fun e w' => e = .returned (.tuple #[.pointer (some ⟨g, i.toNat, none⟩), .int .i64 0]) ∧ w.setCell ⟨b, 1, none⟩ (.int .i64 (cnt + 1)) = w' := by
  go_enter Try.func26, Try.ntmps26
  go_wp2_with (go_at_call 25; refine (find_in b g n i _ hc h0 h1 hn).mono ?_; rintro e w' ⟨rfl, rfl⟩)
  go_ret2
  exact ⟨rfl, rfl⟩

theorem access_out (b g n : Nat) (i : Int) (w : World) (hc : w.cell? ⟨b, 0, none⟩ = some (.slice (some ⟨g, 0, none⟩) n n)) (h : i < 0 ∨ (n : Int) ≤ i) :
    Calls Try.prog 26 #[.pointer (some ⟨b, 0, none⟩), .int .i64 i] w fun e w' => e = .returned (.tuple #[.pointer none, .int .i64 1]) ∧ w = w' := by
  have H := Lib.hid h
  clear h
  go_enter Try.func26, Try.ntmps26
  go_wp2_with (go_at_call 25; refine (find_out b g n i _ hc H.out).mono ?_; rintro e w' ⟨rfl, rfl⟩)
  go_ret2
  exact ⟨rfl, rfl⟩


/-- What an access leaves: its answer, the cells, one access more; and nothing else has turned. -/
def Did (w : World) (b g : Nat) (v : Value) (cs : List Int) (cnt : Int) (e : Ending) (w' : World) : Prop :=
  e = .returned v ∧ MemAt w' b g cs cnt ∧ Only (Two b g) w w'

section
variable {w : World} {b g : Nat} {cs : List Int} {cnt : Int}
theorem only_count (w : World) (b g : Nat) (v : Value) : Only (Two b g) w (w.setCell ⟨b, 1, none⟩ v) := (Only.refl _ w).setCell (.inl (.inl rfl)) v
theorem only_both (w : World) (b g : Nat) (v u : Value) (i : Nat) : Only (Two b g) w ((w.setCell ⟨b, 1, none⟩ v).setCell ⟨g, i, none⟩ u) := (only_count w b g v).setCell (.inl (.inr rfl)) u

theorem load_in (i : Int) (h : MemAt w b g cs cnt) (h0 : 0 ≤ i) (h1 : i < cs.length) (hu : cnt + 1 ≤ 4611686018427387904) :
    Calls Try.prog 15 #[.pointer (some ⟨b, 0, none⟩), .int .i64 i] w (Did w b g (.tuple #[.int .i64 (nth cs i.toNat), .int .i64 0]) cs (cnt + 1)) := by
  have hc := h.c0
  have hc1 := h.c1
  have hf1 := h.f1
  have hm := h.count hu
  have hl := h.lo
  have hn := h.few
  have hg := hm.cg i.toNat (by omega)
  have fin : Did w b g (.tuple #[.int .i64 (nth cs i.toNat), .int .i64 0]) cs (cnt + 1) (.returned (.tuple #[.int .i64 (nth cs i.toNat), .int .i64 0])) (w.setCell ⟨b, 1, none⟩ (.int .i64 (cnt + 1))) := ⟨rfl, hm, only_count ..⟩
  generalize nth cs i.toNat = x at *
  generalize cs.length = n at *
  clear hm h
  have FIN := Lib.hid fin
  clear fin
  go_enter Try.func15, Try.ntmps15
  go_wp2_with (go_at_call 26; refine (access_in b g n i cnt _ hc hc1 hf1 h0 h1 hn hl (by omega)).mono ?_; rintro e w' ⟨rfl, rfl⟩)
  go_ret2
  exact FIN.out

theorem load_out (i : Int) (h : MemAt w b g cs cnt) (ho : i < 0 ∨ (cs.length : Int) ≤ i) :
    Calls Try.prog 15 #[.pointer (some ⟨b, 0, none⟩), .int .i64 i] w fun e w' => e = .returned (.tuple #[.int .i64 0, .int .i64 1]) ∧ w = w' := by
  have hc := h.c0
  have H := Lib.hid ho
  clear h ho
  go_enter Try.func15, Try.ntmps15
  go_wp2_with (go_at_call 26; refine (access_out b g _ i _ hc H.out).mono ?_; rintro e w' ⟨rfl, rfl⟩)
  go_ret2
  exact ⟨rfl, rfl⟩

theorem store_in (i v : Int) (h : MemAt w b g cs cnt) (h0 : 0 ≤ i) (h1 : i < cs.length) (hu : cnt + 1 ≤ 4611686018427387904) :
    Calls Try.prog 16 #[.pointer (some ⟨b, 0, none⟩), .int .i64 i, .int .i64 v] w (Did w b g (.int .i64 0) (cs.set i.toNat v) (cnt + 1)) := by
  have hc := h.c0
  have hc1 := h.c1
  have hf1 := h.f1
  have hm := h.count hu
  have hl := h.lo
  have hn := h.few
  have hg := hm.cg i.toNat (by omega)
  have hgf := hm.fg i.toNat
  have fin : Did w b g (.int .i64 0) (cs.set i.toNat v) (cnt + 1) (.returned (.int .i64 0)) ((w.setCell ⟨b, 1, none⟩ (.int .i64 (cnt + 1))).setCell ⟨g, i.toNat, none⟩ (.int .i64 v)) := ⟨rfl, hm.store _ _, only_both ..⟩
  generalize nth cs i.toNat = x at *
  have FIN := Lib.hid fin
  generalize cs.length = n at *
  clear hm h fin
  go_enter Try.func16, Try.ntmps16
  go_wp2_with (go_at_call 26; refine (access_in b g n i cnt _ hc hc1 hf1 h0 h1 hn hl (by omega)).mono ?_; rintro e w' ⟨rfl, rfl⟩)
  go_ret
  exact FIN.out

theorem store_out (i v : Int) (h : MemAt w b g cs cnt) (ho : i < 0 ∨ (cs.length : Int) ≤ i) :
    Calls Try.prog 16 #[.pointer (some ⟨b, 0, none⟩), .int .i64 i, .int .i64 v] w fun e w' => e = .returned (.int .i64 1) ∧ w = w' := by
  have hc := h.c0
  have H := Lib.hid ho
  clear h ho
  go_enter Try.func16, Try.ntmps16
  go_wp2_with (go_at_call 26; refine (access_out b g _ i _ hc H.out).mono ?_; rintro e w' ⟨rfl, rfl⟩)
  go_ret
  exact ⟨rfl, rfl⟩

theorem add_in (i d : Int) (h : MemAt w b g cs cnt) (h0 : 0 ≤ i) (h1 : i < cs.length) (hu : cnt + 1 ≤ 4611686018427387904) :
    Calls Try.prog 35 #[.pointer (some ⟨b, 0, none⟩), .int .i64 i, .int .i64 d] w (Did w b g (.tuple #[.int .i64 (nth cs i.toNat), .int .i64 0]) (cs.set i.toNat (wrap64 (nth cs i.toNat + d))) (cnt + 1)) := by
  have hc := h.c0
  have hc1 := h.c1
  have hf1 := h.f1
  have hm := h.count hu
  have hl := h.lo
  have hn := h.few
  have hg := hm.cg i.toNat (by omega)
  have hgf := hm.fg i.toNat
  have fin : Did w b g (.tuple #[.int .i64 (nth cs i.toNat), .int .i64 0]) (cs.set i.toNat (wrap64 (nth cs i.toNat + d))) (cnt + 1) (.returned (.tuple #[.int .i64 (nth cs i.toNat), .int .i64 0])) ((w.setCell ⟨b, 1, none⟩ (.int .i64 (cnt + 1))).setCell ⟨g, i.toNat, none⟩ (.int .i64 (wrap64 (nth cs i.toNat + d)))) := ⟨rfl, hm.store _ _, only_both ..⟩
  generalize nth cs i.toNat = x at *
  have FIN := Lib.hid fin
  generalize cs.length = n at *
  clear hm h fin
  go_enter Try.func35, Try.ntmps35
  go_wp2_with (go_at_call 26; refine (access_in b g n i cnt _ hc hc1 hf1 h0 h1 hn hl (by omega)).mono ?_; rintro e w' ⟨rfl, rfl⟩)
  go_ret2
  exact FIN.out

theorem add_out (i d : Int) (h : MemAt w b g cs cnt) (ho : i < 0 ∨ (cs.length : Int) ≤ i) :
    Calls Try.prog 35 #[.pointer (some ⟨b, 0, none⟩), .int .i64 i, .int .i64 d] w fun e w' => e = .returned (.tuple #[.int .i64 0, .int .i64 1]) ∧ w = w' := by
  have hc := h.c0
  have H := Lib.hid ho
  clear h ho
  go_enter Try.func35, Try.ntmps35
  go_wp2_with (go_at_call 26; refine (access_out b g _ i _ hc H.out).mono ?_; rintro e w' ⟨rfl, rfl⟩)
  go_ret2
  exact ⟨rfl, rfl⟩



end

/-- A row of noughts, however many there may be. -/
theorem rowOf (n : Nat) (hn : n ≤ 65536) (w : World) : (Instr.makeSlice 30 (.int .i64 (n : Int)) (.int .i64 (n : Int))).run Try.prog w = .ok (.slice (some ⟨w.heap.size, 0, none⟩) n n) (w.alloc (.cells (madeCells #[.int .i64 0] n) 2)) :=
  run_make_row' 30 2 _ 8 Try.underlying30 Try.info2' rfl _ _ n (by omega) (by omega) w
theorem rowOf0 (w : World) : (Instr.makeSlice 30 (.int .i64 0) (.int .i64 0)).run Try.prog w = .ok (.slice (some ⟨w.heap.size, 0, none⟩) 0 0) (w.alloc (.cells (madeCells #[.int .i64 0] 0) 2)) := rowOf 0 (by omega) w
theorem rowOfMost (w : World) : (Instr.makeSlice 30 (.int .i64 65536) (.int .i64 65536)).run Try.prog w = .ok (.slice (some ⟨w.heap.size, 0, none⟩) 65536 65536) (w.alloc (.cells (madeCells #[.int .i64 0] 65536) 2)) := rowOf 65536 (by omega) w

/-- How many cells a new memory has. -/
def many (n : Int) : Nat := min n.toNat 65536

/-- A new memory: noughts, and nothing else has turned. -/
def Made (w : World) (k : Nat) (e : Ending) (w' : World) : Prop :=
  e = .returned (.pointer (some ⟨w.heap.size + 1, 0, none⟩)) ∧ MemAt w' (w.heap.size + 1) w.heap.size (List.replicate k 0) 0 ∧ Below w.heap.size w w' ∧ w'.heap.size = w.heap.size + 2

theorem made_of (w : World) (k : Nat) (hk : k ≤ 65536) : Made w k (.returned (.pointer (some ⟨w.heap.size + 1, 0, none⟩)))
    ((w.alloc (.cells (madeCells #[.int .i64 0] k) 2)).alloc (.cells #[.slice (some ⟨w.heap.size, 0, none⟩) k k, .int .i64 0] 57)) := by
  refine ⟨rfl, ⟨?_, ?_, by simpa using hk, by omega, by omega⟩, ((Below.refl _ _).alloc (Nat.le_refl _) _).alloc (by simp) _, by simp⟩
  · have := Whole.new (w.alloc (.cells (madeCells #[.int .i64 0] k) 2)) 57 #[.slice (some ⟨w.heap.size, 0, none⟩) k k, .int .i64 0]
    rw [World.size_alloc] at this
    rw [List.length_replicate]
    exact this
  · have := (Whole.new w 2 (madeCells #[.int .i64 0] k)).alloc (.cells #[.slice (some ⟨w.heap.size, 0, none⟩) k k, .int .i64 0] 57)
    rw [← nums_made]
    exact this

set_option maxHeartbeats 1000000 in
theorem new_mem (n : Int) (w : World) : Calls Try.prog 8 #[.int .i64 n] w (Made w (many n)) := by
  have hsplit : (n < 0) ∨ (65536 < n) ∨ (∃ k : Nat, n = k ∧ k ≤ 65536) := by
    by_cases h1 : n < 0
    · exact .inl h1
    · by_cases h2 : 65536 < n
      · exact .inr (.inl h2)
      · exact .inr (.inr ⟨n.toNat, by omega, by omega⟩)
  rcases hsplit with h | h | ⟨k, rfl, h⟩
  · have hm := rowOf0
    have hk : Hid (many n = 0) := by unfold Hid many; omega
    go_enter Try.func8, Try.ntmps8
    go_wp2
    go_ret
    rw [hk.out]
    exact made_of w 0 (by omega)
  · have hm := rowOfMost
    have hk : Hid (many n = 65536) := by unfold Hid many; omega
    have hge : 0 ≤ n := by omega
    go_enter Try.func8, Try.ntmps8
    go_wp2
    go_ret
    rw [hk.out]
    exact made_of w 65536 (by omega)
  · have hm := rowOf k h
    have hk : Hid (many (k : Int) = k) := by unfold Hid many; omega
    go_enter Try.func8, Try.ntmps8
    go_wp2
    go_ret
    rw [hk.out]
    exact made_of w k h
end Go.Proofs.Ytngihgdcoeokhaa
