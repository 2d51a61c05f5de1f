/-
  Texts of our own, one behind the other (WkRes, WkRun, WkAlone): what the laws' proofs rest on; each says at its head what it holds. No conditions.
-/
import Derived.Test.YtejkhnphplpkeaaPkZb
import Derived.Test.YtejkhnphplpkeaaPkZc
import Derived.Test.YtejkhnphplpkeaaPkYb
import Derived.Test.YtejkhnphplpkeaaPkYc
/-
  Layer 17: what comes of a goer, in a variable: its four cells.
-/
namespace Go.Proofs.Ytejkhnphplpkeaa
open Go.ChangeShapes Go.WideShapes Go.ChangeAt Go.RowKit
set_option linter.unusedVariables false
variable {α β : Type}

/-- What came of it. -/
structure Gr where
  H : Int
  O : Bool
  E : List En
  N : List Int
def Gr.nil : Gr := ⟨0, false, [], []⟩
def Gr.cells (r : Gr) (e n : Value) : Array Value := #[.int .i64 r.H, .bool r.O, e, n]
def nilG : Array Value := #[.int .i64 0, .bool false, .slice none 0 0, .slice none 0 0]
def gset4 (w : World) (q : Nat) (x0 x1 x2 x3 : Value) : World := (((w.setCell ⟨q, 0, none⟩ x0).setCell ⟨q, 1, none⟩ x1).setCell ⟨q, 2, none⟩ x2).setCell ⟨q, 3, none⟩ x3
theorem gput4 {w : World} {q : Nat} {t : TypeId} {y0 y1 y2 y3 : Value} (h : Whole w q t #[y0, y1, y2, y3]) (x0 x1 x2 x3 : Value) : Whole (gset4 w q x0 x1 x2 x3) q t #[x0, x1, x2, x3] := by
  have h0 : Whole _ q t #[x0, y1, y2, y3] := Whole.put h 0 x0
  have h1 : Whole _ q t #[x0, x1, y2, y3] := Whole.put h0 1 x1
  have h2 : Whole _ q t #[x0, x1, x2, y3] := Whole.put h1 2 x2
  have h3 : Whole _ q t #[x0, x1, x2, x3] := Whole.put h2 3 x3
  exact h3
theorem gonly4 (w : World) (q : Nat) (x0 x1 x2 x3 : Value) : Only (fun k => k = q) w (gset4 w q x0 x1 x2 x3) := by
  have h := Only.refl (fun k => k = q) w
  have h := h.setCell (p := ⟨q, 0, none⟩) (.inl rfl) x0
  have h := h.setCell (p := ⟨q, 1, none⟩) (.inl rfl) x1
  have h := h.setCell (p := ⟨q, 2, none⟩) (.inl rfl) x2
  have h := h.setCell (p := ⟨q, 3, none⟩) (.inl rfl) x3
  exact h
theorem grow4 {w : World} {q : Nat} {t : TypeId} {y0 y1 y2 y3 : Value} (h : Whole w q t #[y0, y1, y2, y3]) : w.cell? ⟨q, 0, none⟩ = some y0 ∧ w.cell? ⟨q, 1, none⟩ = some y1 ∧ w.cell? ⟨q, 2, none⟩ = some y2 ∧ w.cell? ⟨q, 3, none⟩ = some y3 := ⟨h.cell 0, h.cell 1, h.cell 2, h.cell 3⟩
theorem grow4f {w : World} {q : Nat} {t : TypeId} {y0 y1 y2 y3 : Value} (h : Whole w q t #[y0, y1, y2, y3]) : w.frozen? ⟨q, 0, none⟩ = false ∧ w.frozen? ⟨q, 1, none⟩ = false ∧ w.frozen? ⟨q, 2, none⟩ = false ∧ w.frozen? ⟨q, 3, none⟩ = false := ⟨h.frozen 0, h.frozen 1, h.frozen 2, h.frozen 3⟩

/-- What the tasks are, with all that comes of them. -/
def findRs (c : Int → Int → Int) (root addr : Int) : Sk Gr := (findFrom c addr 8 root).bind fun r => .ret ⟨r.1, r.2, [], []⟩
def allR : Option Thru → Gr
  | none => Gr.nil
  | some s => ⟨0, true, s.es, s.ns⟩
noncomputable def allRs (c : Int → Int → Int) (root : Int) : Sk Gr := (thru c 8 root ⟨[], []⟩).bind fun r => .ret (allR r)
/-- The laws' goer. -/
def goer (ab : Nat) (root addr : Int) (all : Bool) (rb : Nat) : Value := .agg #[.pointer (some ⟨ab, 0, none⟩), .int .i64 root, .int .i64 addr, .bool all, .pointer (some ⟨rb, 0, none⟩)]
section
variable {w w2 w' : World} {b g tb ab ag rb base : Nat} {tv mv tv' mv' : Value} {T T' : Tr} {m m' : Mm} {x x' : Wi} {G : Int} {n : Nat} {q : Sk α} {f : α → Gr} {a : α}
end
end Go.Proofs.Ytejkhnphplpkeaa

/-
  Layer 17: the laws' goer: its run, for each of its ways.
-/
namespace Go.Proofs.Ytejkhnphplpkeaa
open Go.ChangeShapes Go.WideShapes Go.ChangeAt Go.RowKit
set_option linter.unusedVariables false

section
variable {b g tb ab ag rb base N : Nat} {x : Wi}
end
end Go.Proofs.Ytejkhnphplpkeaa

/-
  Layer 17: what comes of a goer that is alone.
-/
namespace Go.Proofs.Ytejkhnphplpkeaa
open Go.ChangeShapes Go.WideShapes Go.ChangeAt Go.RowKit
set_option linter.unusedVariables false

/-- The cells of what is told, as a value. -/
def Gr.val (r : Gr) (e n : Value) : Value := .agg #[.int .i64 r.H, .bool r.O, e, n]
/-- What alone leaves. -/
def AlonePost (w : World) (b g ab ag : Nat) (m : Mm) (x : Wi) (p : Sk Gr) (e : Ending) (w' : World) : Prop :=
  ∃ (A1 : Option Addr) (c1 : Nat) (A2 : Option Addr) (c2 : Nat), e = .returned (.tuple #[(p.ans m).val (.slice A1 (p.ans m).E.length c1) (.slice A2 (p.ans m).N.length c2), .int .i64 ((p.reads m).length : Int), .bool true]) ∧
    Mes w.heap.size w' (.slice A1 (p.ans m).E.length c1) (p.ans m).E ∧ Mw w.heap.size w' (.slice A2 (p.ans m).N.length c2) (p.ans m).N ∧
    MemAt w' b g m.cs (m.cnt + inbs m (p.reads m)) ∧ ArAt w' ab ag x.fst x.l (evsW x ((p.reads m).map fun q => .touch q.2)).st x.db ∧ Only (fun k => CTwo b g k ∨ ArTwo ab ag k) w w'
section
variable {w : World} {b g ab ag : Nat} {m : Mm} {x : Wi} {G : Int} {root addr : Int} {all : Bool} {p : Sk Gr}
theorem gafter_over (p : Sk Gr) (m : Mm) (x : Wi) : (p.after some m x none (p.reads m).length) = ⟨((p.reads m).map fun q => rdv m q.1), true, ⟨m.cs, m.cnt + inbs m (p.reads m)⟩, evsW x ((p.reads m).map fun q => .touch q.2), some (p.ans m)⟩ := by
  unfold Sk.after
  simp
end
end Go.Proofs.Ytejkhnphplpkeaa
