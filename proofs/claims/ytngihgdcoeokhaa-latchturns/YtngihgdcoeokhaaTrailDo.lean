/-
  Layer 3: the closures that do an access on the memory.
-/
import Derived.Test.YtngihgdcoeokhaaTrail
import Derived.Deep.RegionWith
import Derived.StillTailTactics
import Derived.Deep.DeepCutAuto
import Derived.Deep.CutBlock
import Derived.Deep.QuietTactic
namespace Go.Proofs.Ytngihgdcoeokhaa
open Go.ChangeShapes Go.WideShapes Go.ChangeAt Go.RowKit
set_option linter.unusedVariables false

/-- What a closure leaves: what was told, whether it has ended, the memory. -/
def Done (w : World) (b g : Nat) (x : Int) (ok : Bool) (m : Mm) (e : Ending) (w' : World) : Prop :=
  e = .returned (.tuple #[.int .i64 x, .bool ok]) ∧ MemAt w' b g m.cs m.cnt ∧ Only (Two b g) w w'

section
variable {w : World} {b g tb bt bi bv bo : Nat} {m : Mm} {n : Nat}


/-- What the memory's own call leaves. -/
def Told (w : World) (b g : Nat) (v : Value) (m : Mm) (e : Ending) (w' : World) : Prop := e = .returned v ∧ MemAt w' b g m.cs m.cnt ∧ Only (Two b g) w w'
/-- Its second answer. -/
def errOf (i : Int) (m : Mm) : Int := if inb i m then 0 else 1

theorem inb_yes {i : Int} (h : inb i m = true) : 0 ≤ i ∧ i < m.cs.length := by simpa [inb] using h
theorem inb_no {i : Int} (h : ¬ inb i m = true) : i < 0 ∨ (m.cs.length : Int) ≤ i := by
  simp only [inb, decide_eq_true_eq] at h
  omega

theorem load_told (i : Int) (hm : MemAt w b g m.cs m.cnt) (hu : m.cnt + 1 ≤ 4611686018427387904) :
    Calls Try.prog 15 #[.pointer (some ⟨b, 0, none⟩), .int .i64 i] w (Told w b g (.tuple #[.int .i64 (toldOf 0 i 0 m), .int .i64 (errOf i m)]) (memOf 0 i 0 0 m)) := by
  by_cases hi : inb i m = true
  · refine (load_in i hm (inb_yes hi).1 (inb_yes hi).2 hu).mono ?_
    rintro e w' ⟨rfl, h1, h2⟩
    exact ⟨by simp [toldOf, errOf, hi], by simpa [memOf, hi] using h1, h2⟩
  · refine (load_out i hm (inb_no hi)).mono ?_
    rintro e w' ⟨rfl, rfl⟩
    exact ⟨by simp [toldOf, errOf, hi], by simpa [memOf, hi] using hm, Only.refl _ _⟩
theorem wait_told (i v : Int) (hm : MemAt w b g m.cs m.cnt) (hu : m.cnt + 1 ≤ 4611686018427387904) :
    Calls Try.prog 15 #[.pointer (some ⟨b, 0, none⟩), .int .i64 i] w (Told w b g (.tuple #[.int .i64 (toldOf 4 i v m), .int .i64 (errOf i m)]) (memOf 4 i 0 v m)) := by
  refine (load_told i hm hu).mono ?_
  rintro e w' ⟨rfl, h1, h2⟩
  exact ⟨rfl, by simpa [memOf] using h1, h2⟩
theorem store_told (i v : Int) (hm : MemAt w b g m.cs m.cnt) (hu : m.cnt + 1 ≤ 4611686018427387904) :
    Calls Try.prog 16 #[.pointer (some ⟨b, 0, none⟩), .int .i64 i, .int .i64 v] w (Told w b g (.int .i64 (errOf i m)) (memOf 1 i v 0 m)) := by
  by_cases hi : inb i m = true
  · refine (store_in i v hm (inb_yes hi).1 (inb_yes hi).2 hu).mono ?_
    rintro e w' ⟨rfl, h1, h2⟩
    exact ⟨by simp [errOf, hi], by simpa [memOf, hi] using h1, h2⟩
  · refine (store_out i v hm (inb_no hi)).mono ?_
    rintro e w' ⟨rfl, rfl⟩
    exact ⟨by simp [errOf, hi], by simpa [memOf, hi] using hm, Only.refl _ _⟩
theorem add_told (i d : Int) (hm : MemAt w b g m.cs m.cnt) (hu : m.cnt + 1 ≤ 4611686018427387904) :
    Calls Try.prog 35 #[.pointer (some ⟨b, 0, none⟩), .int .i64 i, .int .i64 d] w (Told w b g (.tuple #[.int .i64 (toldOf 2 i 0 m), .int .i64 (errOf i m)]) (memOf 2 i d 0 m)) := by
  by_cases hi : inb i m = true
  · refine (add_in i d hm (inb_yes hi).1 (inb_yes hi).2 hu).mono ?_
    rintro e w' ⟨rfl, h1, h2⟩
    exact ⟨by simp [toldOf, errOf, hi], by simpa [memOf, hi] using h1, h2⟩
  · refine (add_out i d hm (inb_no hi)).mono ?_
    rintro e w' ⟨rfl, rfl⟩
    exact ⟨by simp [toldOf, errOf, hi], by simpa [memOf, hi] using hm, Only.refl _ _⟩

theorem done_of {x : Int} {ok : Bool} {m' : Mm} {w' : World} (hm : MemAt w' b g m'.cs m'.cnt) (ho : Only (Two b g) w.drew w') : Done w b g x ok m' (.returned (.tuple #[.int .i64 x, .bool ok])) w' :=
  ⟨rfl, hm, ⟨ho.os, ho.tape, ho.output, ho.size, ho.block⟩⟩
theorem done_of' {x : Int} {ok : Bool} {m' : Mm} {w' : World} (hm : MemAt w' b g m'.cs m'.cnt) (ho : Only (Two b g) w.drew w') (k : Nat) : Done w b g x ok m' (.returned (.tuple #[.int .i64 x, .bool ok])) (w'.drewN k) :=
  ⟨rfl, hm.only (Only.of_below (below_drewN (Below.refl _ _) k) (fun _ => False)) id id, ⟨ho.os, ho.tape, ho.output, ho.size, ho.block⟩⟩
theorem still_cell {p : Addr} {u : Value} {w' : World} (h : w.cell? p = some u) (hn : ¬ Two b g p.block) (ho : Only (Two b g) w.drew w') : w'.cell? p = some u := (ho.cell (World.block_lt_of_cell? w p h) hn).trans h
theorem mem_drew (hm : MemAt w b g m.cs m.cnt) : MemAt w.drew b g m.cs m.cnt := hm.only (Only.of_below (below_drew (Below.refl _ _)) (fun _ => False)) id id

theorem load_does (i : Int) (h0 : w.cell? ⟨bt, 0, none⟩ = some (.pointer (some ⟨tb, 0, none⟩))) (h1 : w.cell? ⟨bi, 0, none⟩ = some (.int .i64 i)) (ht : w.cell? ⟨tb, 0, none⟩ = some (.pointer (some ⟨b, 0, none⟩)))
    (n0 : ¬ Two b g bt) (n1 : ¬ Two b g bi) (nt : ¬ Two b g tb) (hm : MemAt w b g m.cs m.cnt) (hu : m.cnt + 1 ≤ 4611686018427387904) :
    Calls Try.prog 32 #[.pointer (some ⟨bt, 0, none⟩), .pointer (some ⟨bi, 0, none⟩)] w (Done w b g (toldOf 0 i 0 m) true (memOf 0 i 0 0 m)) := by
  have N0 := Lib.hid n0
  have N1 := Lib.hid n1
  have NT := Lib.hid nt
  have K := Lib.hid (mem_drew hm)
  have U := Lib.hid hu
  have C := Lib.hid (load_told (w := w.drew) (m := m) i K.out hu)
  clear hm hu nt n0 n1 U K
  generalize memOf 0 i 0 0 m = m' at *
  generalize toldOf 0 i 0 m = x at *
  generalize errOf i m = er at *
  go_enter Try.func32, Try.ntmps32
  go_upto_region 1 with (fail)
  go_region_held3 (fun w' => w'.cell? ⟨bt, 0, none⟩ = some (.pointer (some ⟨tb, 0, none⟩)) ∧ w'.cell? ⟨bi, 0, none⟩ = some (.int .i64 i) ∧ w'.cell? ⟨tb, 0, none⟩ = some (.pointer (some ⟨b, 0, none⟩)))
    (first | exact ⟨h0, h1, ht⟩ | exact ⟨still_cell h0 N0.out ho, still_cell h1 N1.out ho, still_cell ht NT.out ho⟩)
    ((go_at_call 15; refine C.out.mono ?_; rintro e w' ⟨rfl, hd, ho⟩))
  go_wp2_with fail
  go_ret2
  exact done_of hd ho

theorem store_does (i v : Int) (h0 : w.cell? ⟨bt, 0, none⟩ = some (.pointer (some ⟨tb, 0, none⟩))) (h1 : w.cell? ⟨bi, 0, none⟩ = some (.int .i64 i)) (h2 : w.cell? ⟨bv, 0, none⟩ = some (.int .i64 v)) (ht : w.cell? ⟨tb, 0, none⟩ = some (.pointer (some ⟨b, 0, none⟩)))
    (n0 : ¬ Two b g bt) (n1 : ¬ Two b g bi) (n2 : ¬ Two b g bv) (nt : ¬ Two b g tb) (hm : MemAt w b g m.cs m.cnt) (hu : m.cnt + 1 ≤ 4611686018427387904) :
    Calls Try.prog 33 #[.pointer (some ⟨bt, 0, none⟩), .pointer (some ⟨bi, 0, none⟩), .pointer (some ⟨bv, 0, none⟩)] w (Done w b g (toldOf 1 i 0 m) true (memOf 1 i v 0 m)) := by
  have N0 := Lib.hid n0
  have N1 := Lib.hid n1
  have N2 := Lib.hid n2
  have NT := Lib.hid nt
  have K := Lib.hid (mem_drew hm)
  have U := Lib.hid hu
  have C := Lib.hid (store_told (w := w.drew) (m := m) i v K.out hu)
  have X : toldOf 1 i 0 m = 0 := by simp [toldOf]
  rw [X]
  clear X
  clear hm hu nt n0 n1 n2 U K
  generalize memOf 1 i v 0 m = m' at *
  generalize errOf i m = er at *
  go_enter Try.func33, Try.ntmps33
  go_upto_region 1 with (fail)
  go_region_held3 (fun w' => w'.cell? ⟨bt, 0, none⟩ = some (.pointer (some ⟨tb, 0, none⟩)) ∧ w'.cell? ⟨bi, 0, none⟩ = some (.int .i64 i) ∧ w'.cell? ⟨bv, 0, none⟩ = some (.int .i64 v) ∧ w'.cell? ⟨tb, 0, none⟩ = some (.pointer (some ⟨b, 0, none⟩)))
    (first | exact ⟨h0, h1, h2, ht⟩ | exact ⟨still_cell h0 N0.out ho, still_cell h1 N1.out ho, still_cell h2 N2.out ho, still_cell ht NT.out ho⟩)
    ((go_at_call 16; refine C.out.mono ?_; rintro e w' ⟨rfl, hd, ho⟩))
  go_wp2_with fail
  go_ret2
  exact done_of hd ho

theorem add_does (i d : Int) (h0 : w.cell? ⟨bt, 0, none⟩ = some (.pointer (some ⟨tb, 0, none⟩))) (h1 : w.cell? ⟨bi, 0, none⟩ = some (.int .i64 i)) (h2 : w.cell? ⟨bv, 0, none⟩ = some (.int .i64 d)) (ht : w.cell? ⟨tb, 0, none⟩ = some (.pointer (some ⟨b, 0, none⟩)))
    (n0 : ¬ Two b g bt) (n1 : ¬ Two b g bi) (n2 : ¬ Two b g bv) (nt : ¬ Two b g tb) (hm : MemAt w b g m.cs m.cnt) (hu : m.cnt + 1 ≤ 4611686018427387904) :
    Calls Try.prog 34 #[.pointer (some ⟨bt, 0, none⟩), .pointer (some ⟨bi, 0, none⟩), .pointer (some ⟨bv, 0, none⟩)] w (Done w b g (toldOf 2 i 0 m) true (memOf 2 i d 0 m)) := by
  have N0 := Lib.hid n0
  have N1 := Lib.hid n1
  have N2 := Lib.hid n2
  have NT := Lib.hid nt
  have K := Lib.hid (mem_drew hm)
  have U := Lib.hid hu
  have C := Lib.hid (add_told (w := w.drew) (m := m) i d K.out hu)
  clear hm hu nt n0 n1 n2 U K
  generalize memOf 2 i d 0 m = m' at *
  generalize toldOf 2 i 0 m = x at *
  generalize errOf i m = er at *
  go_enter Try.func34, Try.ntmps34
  go_upto_region 1 with (fail)
  go_region_held3 (fun w' => w'.cell? ⟨bt, 0, none⟩ = some (.pointer (some ⟨tb, 0, none⟩)) ∧ w'.cell? ⟨bi, 0, none⟩ = some (.int .i64 i) ∧ w'.cell? ⟨bv, 0, none⟩ = some (.int .i64 d) ∧ w'.cell? ⟨tb, 0, none⟩ = some (.pointer (some ⟨b, 0, none⟩)))
    (first | exact ⟨h0, h1, h2, ht⟩ | exact ⟨still_cell h0 N0.out ho, still_cell h1 N1.out ho, still_cell h2 N2.out ho, still_cell ht NT.out ho⟩)
    ((go_at_call 35; refine C.out.mono ?_; rintro e w' ⟨rfl, hd, ho⟩))
  go_wp2_with fail
  go_ret2
  exact done_of hd ho


theorem wait_does (i v : Int) (h0 : w.cell? ⟨bt, 0, none⟩ = some (.pointer (some ⟨tb, 0, none⟩))) (h1 : w.cell? ⟨bi, 0, none⟩ = some (.int .i64 i)) (h2 : w.cell? ⟨bv, 0, none⟩ = some (.int .i64 v)) (ht : w.cell? ⟨tb, 0, none⟩ = some (.pointer (some ⟨b, 0, none⟩)))
    (n0 : ¬ Two b g bt) (n1 : ¬ Two b g bi) (n2 : ¬ Two b g bv) (nt : ¬ Two b g tb) (hm : MemAt w b g m.cs m.cnt) (hu : m.cnt + 1 ≤ 4611686018427387904) :
    Calls Try.prog 36 #[.pointer (some ⟨bt, 0, none⟩), .pointer (some ⟨bi, 0, none⟩), .pointer (some ⟨bv, 0, none⟩)] w (Done w b g (toldOf 4 i v m) (okOf 4 i v m) (memOf 4 i 0 v m)) := by
  have N0 := Lib.hid n0
  have N1 := Lib.hid n1
  have N2 := Lib.hid n2
  have NT := Lib.hid nt
  have K := Lib.hid (mem_drew hm)
  have U := Lib.hid hu
  have C := Lib.hid (wait_told (w := w.drew) (m := m) i v K.out hu)
  have X : (errOf i m = 1 ∧ okOf 4 i v m = false) ∨ (errOf i m = 0 ∧ toldOf 4 i v m = v ∧ okOf 4 i v m = true) ∨ (errOf i m = 0 ∧ toldOf 4 i v m ≠ v ∧ okOf 4 i v m = false) := by
    unfold errOf toldOf okOf
    by_cases hi : inb i m = true
    · by_cases he : nth m.cs i.toNat = v <;> simp [hi, he]
    · simp [hi]
  clear hm hu nt n0 n1 n2 U K
  generalize memOf 4 i 0 v m = m' at *
  generalize toldOf 4 i v m = x at *
  generalize okOf 4 i v m = ok at *
  generalize errOf i m = er at *
  rcases X with ⟨rfl, rfl⟩ | ⟨rfl, heq, rfl⟩ | ⟨rfl, hne, rfl⟩
  all_goals
    first | (have hq : (x == v) = false := beq_eq_false_iff_ne.2 hne; clear hne) | (have hq : (x == v) = true := beq_iff_eq.2 heq; clear heq) | skip
    go_enter Try.func36, Try.ntmps36
    go_upto_region 1 with (fail)
    go_region_held3 (fun w' => w'.cell? ⟨bt, 0, none⟩ = some (.pointer (some ⟨tb, 0, none⟩)) ∧ w'.cell? ⟨bi, 0, none⟩ = some (.int .i64 i) ∧ w'.cell? ⟨bv, 0, none⟩ = some (.int .i64 v) ∧ w'.cell? ⟨tb, 0, none⟩ = some (.pointer (some ⟨b, 0, none⟩)))
      (first | exact ⟨h0, h1, h2, ht⟩ | exact ⟨still_cell h0 N0.out ho, still_cell h1 N1.out ho, still_cell h2 N2.out ho, still_cell ht NT.out ho⟩)
      ((go_at_call 15; refine C.out.mono ?_; rintro e w' ⟨rfl, hd, ho⟩))
    go_upto_region 2 with (fail)
    go_quiet (fail)
    go_wp2_with fail
    go_ret2
    exact done_of' hd ho _

end
end Go.Proofs.Ytngihgdcoeokhaa
