/-
  Layer 3, pure: what an access does to a trail and to a memory, and what a run of a program of accesses does.
-/
import Derived.Test.YtngihgdcoeokhaaOwn
namespace Go.Proofs.Ytngihgdcoeokhaa
open Go.RowKit

/-- A trail: what it remembers, and how far its step is (0 between steps, 1 again, 2 done, 3 waits, 4 dry). -/
structure Tr where
  told : List Int
  marks : List (Int × Int)
  over : Bool
  ph : Int
  place : Nat
  time : Int

/-- A memory: its cells, and how many accesses it has had. -/
structure Mm where
  cs : List Int
  cnt : Int

/-- Is there such a cell? -/
def inb (i : Int) (m : Mm) : Bool := decide (0 ≤ i ∧ i < m.cs.length)

/-- What the access (0 load, 1 store, 2 add, 3 swap, 4 wait) is told by the memory. -/
def toldOf (k i old : Int) (m : Mm) : Int :=
  if inb i m then (if k = 1 then 0 else if k = 3 then (if nth m.cs i.toNat = old then 1 else 0) else nth m.cs i.toNat) else 0
/-- Has it ended? -/
def okOf (k i old : Int) (m : Mm) : Bool := if k = 4 then inb i m && decide (nth m.cs i.toNat = old) else true
/-- What it makes of the memory. -/
def memOf (k i v old : Int) (m : Mm) : Mm :=
  if inb i m then
    ⟨if k = 1 then m.cs.set i.toNat v else if k = 2 then m.cs.set i.toNat (wrap64 (nth m.cs i.toNat + v)) else if k = 3 then (if nth m.cs i.toNat = old then m.cs.set i.toNat v else m.cs) else m.cs, m.cnt + 1⟩
  else m

/-- An access by a trail. -/
def accT (k i old : Int) (T : Tr) (m : Mm) : Tr :=
  if T.ph = 1 then
    if T.place = T.told.length then
      if okOf k i old m then { T with told := T.told ++ [toldOf k i old m], ph := 2, place := T.place + 1 } else { T with ph := 3 }
    else { T with place := T.place + 1 }
  else if T.ph = 2 ∨ T.ph = 3 then { T with ph := 4 } else T
def accM (k i v old : Int) (T : Tr) (m : Mm) : Mm := if T.ph = 1 ∧ T.place = T.told.length then memOf k i v old m else m
def accV (k i old : Int) (T : Tr) (m : Mm) : Int :=
  if T.ph = 1 then
    if T.place = T.told.length then (if okOf k i old m then toldOf k i old m else 0) else nth T.told T.place
  else 0

def fresh (T : Tr) : Bool := decide (T.ph = 2 ∨ T.ph = 3)
def dry (T : Tr) : Bool := decide (T.ph = 3 ∨ T.ph = 4 ∨ (T.ph = 0 ∧ T.over = false))
def marked (kd : Int) (T : Tr) : Tr := if fresh T then { T with marks := T.marks ++ [(kd, T.time)] } else T

/-- What may be of a trail. -/
structure Fine (T : Tr) : Prop where
  ph : T.ph = 0 ∨ T.ph = 1 ∨ T.ph = 2 ∨ T.ph = 3 ∨ T.ph = 4
  place : T.ph = 1 → T.place ≤ T.told.length
  one : T.ph ≠ 0 → T.over = false

/-- An op of a program. -/
structure Pop where
  kd : Int
  i : Int
  v : Int
  old : Int
  use : Bool

/-- What comes of an op, where the sum is s. -/
def popV (o : Pop) (s : Int) : Int := if o.use then wrap64 (o.v + s) else o.v
def popT (o : Pop) (T : Tr) (m : Mm) : Tr := if o.kd % 6 = 5 then marked o.i T else accT (o.kd % 6) o.i o.old T m
def popM (o : Pop) (s : Int) (T : Tr) (m : Mm) : Mm := if o.kd % 6 = 5 then m else accM (o.kd % 6) o.i (popV o s) o.old T m
def popG (o : Pop) (T : Tr) (m : Mm) : Int :=
  if o.kd % 6 = 0 ∨ o.kd % 6 = 2 then accV (o.kd % 6) o.i o.old T m
  else if o.kd % 6 = 3 then (if accV 3 o.i o.old T m ≠ 0 then 1 else 0)
  else if o.kd % 6 = 4 then o.old else 0

/-- Where a program is: the trail, the memory, the sum. -/
structure Pst where
  T : Tr
  m : Mm
  s : Int
def pop (o : Pop) (x : Pst) : Pst := ⟨popT o x.T x.m, popM o x.s x.T x.m, wrap64 (x.s + popG o x.T x.m)⟩

/-- A run: it ends where the trail is dry, or at the program's end. -/
def runP : List Pop → Pst → Pst × Bool
  | [], x => (x, true)
  | o :: l, x => if dry (pop o x).T then (pop o x, false) else runP l (pop o x)

def began (time : Int) (T : Tr) : Tr := { T with ph := 1, place := 0, time := time }
def ended (T : Tr) : Tr := { T with over := !dry T, ph := 0 }
end Go.Proofs.Ytngihgdcoeokhaa
