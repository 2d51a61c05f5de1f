/-
  Texts of our own, one behind the other (MapSmall, MapKit): what the laws' proofs rest on; each says at its head what it holds. No conditions.
-/
import Derived.Test.YtejkhnphplpkeaaPkLa
import Derived.Test.YtejkhnphplpkeaaPkC
import Derived.Deep.LoopGhost
import Derived.Lib.SliceRun
import Derived.Deep.RegionHeld3
/-
  Layer 10: the small calls: a contract for each.
-/
namespace Go.Proofs.Ytejkhnphplpkeaa
open Go.ChangeShapes Go.WideShapes Go.ChangeAt Go.RowKit Go.Shelf
set_option linter.unusedVariables false

/-- An answer: its error, and its value; it has no attributes. -/
def ansC (e x : Int) : Array Value := #[.int .i64 e, .int .i64 x, .int .i64 0, .bool false, .int .i64 0, .int .i64 0]
def ansV (e x : Int) : Value := .agg (ansC e x)

/-! A copy. -/
/-- The first one that isn't 0. -/
def firstE : List Int → Int
  | [] => 0
  | e :: r => if e = 0 then firstE r else e
theorem firstE_drop {es : List Int} {k : Nat} (h : k < es.length) : firstE (es.drop k) = if nth es k = 0 then firstE (es.drop (k + 1)) else nth es k := by
  rw [List.drop_eq_getElem_cons h, firstE]
  simp [nth, List.getElem?_eq_getElem h]
/-- Whether a flag is set. -/
def bitF (f k : Int) : Bool := bits .and .i64 f k != 0
/-- What is wrong with a map's flags. -/
def fgE (f : Int) : Int := if bitF f 2 = true ∧ bitF f 1 = false then 1 else flE f 15
/-- It is right, and has at most 24 areas. -/
def MayL (X : List Ar) : Prop := RightL X ∧ X.length ≤ 24
instance (X : List Ar) : Decidable (MayL X) := inferInstanceAs (Decidable (_ ∧ _))
def liE (X : List Ar) : Int := if MayL X then 0 else 1
end Go.Proofs.Ytejkhnphplpkeaa

/-
  Layer 10: what is refused, and what is kept; calls: a contract for each call that asks no gap.
-/
namespace Go.Proofs.Ytejkhnphplpkeaa
open Go.ChangeShapes Go.WideShapes Go.ChangeAt Go.RowKit Go.Shelf
set_option linter.unusedVariables false

/-! What lies in a range. -/
theorem results_tmp_row {P : Program} {fn : Func} {p u : Tmp} {ty : TypeId} (h : fn.results = #[.tmp u, .cell p ty]) (tmps : Array Value) (w : World) (g : Nat) (t : TypeId) (cs : Array Value) (fr : Nat × Nat) (d : TypeDesc)
    (hp : tmps.getD p undef = .pointer (some ⟨g, 0, none⟩)) (hg : w.heap[g]? = some (.cells cs t fr))
    (hu : P.underlying ty = some d) (hd : (match d with | .struct _ | .array _ _ => true | _ => false) = true) (hi : (P.info? ty).map (·.size) = some cs.size) :
    (results fn tmps).run P w = .ok (.tuple #[tmps.getD u undef, .agg cs]) w := by
  have e : (results fn tmps).run P w = ((asAddr (tmps.getD p undef)).run P w).andThen fun a w₁ => ((loadVar ty a).run P w₁).andThen fun v w₂ => .ok (.tuple #[tmps.getD u undef, v]) w₂ := by
    simp only [results, h]
    simp [Sem.run_bind, Result.andThen]
  rw [e, hp]
  simp [asAddr, Result.andThen, run_loadVar_row w g t ty cs fr d hg hu hd hi]


/-- A list of its own, and an answer. -/
def Gives (w : World) (Y : List Ar) (e x : Int) (r : Ending) (w' : World) : Prop := ∃ v', r = .returned (.tuple #[v', ansV e x]) ∧ Mine w.heap.size w' v' Y ∧ Below w.heap.size w w'
/-- Six cells are written. -/
def set6 (w : World) (q : Nat) (x0 x1 x2 x3 x4 x5 : Value) : World := (((((w.setCell ⟨q, 0, none⟩ x0).setCell ⟨q, 1, none⟩ x1).setCell ⟨q, 2, none⟩ x2).setCell ⟨q, 3, none⟩ x3).setCell ⟨q, 4, none⟩ x4).setCell ⟨q, 5, none⟩ x5
theorem six_put {w : World} {q : Nat} {t : TypeId} {a b c d e f : Value} (h : Whole w q t #[a, b, c, d, e, f]) (x0 x1 x2 x3 x4 x5 : Value) : Whole (set6 w q x0 x1 x2 x3 x4 x5) q t #[x0, x1, x2, x3, x4, x5] :=
  (((((Whole.put h 0 _).put 1 _).put 2 _).put 3 _).put 4 _).put 5 _
theorem six_only (w : World) (q : Nat) (x0 x1 x2 x3 x4 x5 : Value) : Only (fun k => k = q) w (set6 w q x0 x1 x2 x3 x4 x5) :=
  ((((((Only.refl (fun k => k = q) w).setCell (p := ⟨q, 0, none⟩) (.inl rfl) _).setCell (p := ⟨q, 1, none⟩) (.inl rfl) _).setCell (p := ⟨q, 2, none⟩) (.inl rfl) _).setCell (p := ⟨q, 3, none⟩) (.inl rfl) _).setCell (p := ⟨q, 4, none⟩) (.inl rfl) _).setCell (p := ⟨q, 5, none⟩) (.inl rfl) _
/-- Six cells, to be read and written. -/
structure Six (w : World) (q : Nat) (a b c d e f : Value) : Prop where
  c : (w.cell? ⟨q, 0, none⟩ = some a ∧ w.cell? ⟨q, 1, none⟩ = some b ∧ w.cell? ⟨q, 2, none⟩ = some c ∧ w.cell? ⟨q, 3, none⟩ = some d ∧ w.cell? ⟨q, 4, none⟩ = some e ∧ w.cell? ⟨q, 5, none⟩ = some f)
  fr : w.frozen? ⟨q, 0, none⟩ = false ∧ w.frozen? ⟨q, 1, none⟩ = false ∧ w.frozen? ⟨q, 2, none⟩ = false ∧ w.frozen? ⟨q, 3, none⟩ = false ∧ w.frozen? ⟨q, 4, none⟩ = false ∧ w.frozen? ⟨q, 5, none⟩ = false
theorem six_of {w : World} {q : Nat} {t : TypeId} {a b c d e f : Value} (h : Whole w q t #[a, b, c, d, e, f]) : Six w q a b c d e f :=
  ⟨row6 h, ⟨h.frozen 0, h.frozen 1, h.frozen 2, h.frozen 3, h.frozen 4, h.frozen 5⟩⟩
section
variable {w : World} {v v' : Value} {X Y : List Ar}
end

/-! Calls. -/
/-- A call: its kind, Addr, Len, New, To, Prot, Flags, Back, Off. -/
structure Cl where
  k : Int
  a : Int
  n : Int
  nw : Int
  tw : Int
  p : Int
  f : Int
  b : Int
  o : Int
def Cl.cells (c : Cl) : Array Value := #[.int .i64 c.k, .int .i64 c.a, .int .i64 c.n, .int .i64 c.nw, .int .i64 c.tw, .int .i64 c.p, .int .i64 c.f, .int .i64 c.b, .int .i64 c.o]
def Cl.v (c : Cl) : Value := .agg c.cells
/-- All its numbers are of 64 bits. -/
def i64 (x : Int) : Prop := -9223372036854775808 ≤ x ∧ x ≤ 9223372036854775807
theorem sz_sz {n : Int} (h : szE n = 0) : szV (szV n) = szV n ∧ szE (szV n) = 0 := by
  have hp := sz_pages h
  generalize szV n = s at *
  rcases sz_is s with ⟨h1, _⟩ | ⟨h1, _⟩ | ⟨h1, h2, h3⟩
  · omega
  · omega
  · exact ⟨by omega, h2⟩
theorem first_zero : ∀ {es : List Int}, firstE es = 0 ↔ ∀ e ∈ es, e = 0
  | [] => by simp [firstE]
  | e :: r => by
    unfold firstE
    by_cases h : e = 0
    · rw [if_pos h, first_zero]; simp [h]
    · rw [if_neg h]; simp [h]

theorem row9 {w : World} {q : Nat} {t : TypeId} {c : Cl} (h : Whole w q t c.cells) : w.cell? ⟨q, 0, none⟩ = some (.int .i64 c.k) ∧ w.cell? ⟨q, 1, none⟩ = some (.int .i64 c.a) ∧ w.cell? ⟨q, 2, none⟩ = some (.int .i64 c.n) ∧ w.cell? ⟨q, 3, none⟩ = some (.int .i64 c.nw) ∧ w.cell? ⟨q, 4, none⟩ = some (.int .i64 c.tw) ∧ w.cell? ⟨q, 5, none⟩ = some (.int .i64 c.p) ∧ w.cell? ⟨q, 6, none⟩ = some (.int .i64 c.f) ∧ w.cell? ⟨q, 7, none⟩ = some (.int .i64 c.b) ∧ w.cell? ⟨q, 8, none⟩ = some (.int .i64 c.o) :=
  ⟨h.cell 0, h.cell 1, h.cell 2, h.cell 3, h.cell 4, h.cell 5, h.cell 6, h.cell 7, h.cell 8⟩
end Go.Proofs.Ytejkhnphplpkeaa
