/-
  No cell of these rows narrows 'for every input' (looked for: loops, veiled, ifaces, maps, wideKeys, modest, calm, conditions, laid).
  DERIVED. THE GIVEN ROWS OF THIS SEAT. 5 by the template 'for every input the law returns true; each argument reads behind the call as it read before'; 0 by the template 'total and deterministic' (their statements: YtmocdanfjoginaaTotals.lean).
  GIVEN WITH THE SEED: the statements are not yours to turn. If you find one false, say at which input.
  Laid BY PROGRAM, IN A SANDBOX (cutbox-rows.mjs): the forced cells as the released guide's own fill.sh prints them over the translation 23de15924102a197… (all of the seat's roots in one cut). By AI agents, Wed Nov 11 2026. No macro, syntax, notation, axiom, sorry.
-/
import Derived.Test.YtmocdanfjoginaaChecked
import GoSem.Claim
import GoSem.ClaimJoined
import GoSem.ClaimMapViews
import Derived.JoinedTies
import Derived.KernelRfl
namespace Go.Proofs.Ytmocdanfjoginaa
/- THE CELL 'sum', in the pinned program and in every row, IS THE sha256 OF THE DUMP (.gsa) THAT YtmocdanfjoginaaProg.lean LOADS. Nothing in Lean hashes anything: it is a label: what it is worth is what the hold of that sum in a sandbox is worth. -/
noncomputable def Try.pinned : Pinned := { name := "ytmocdanfjoginaa", sum := "23de15924102a19709c7b33a266293804976c7296997a56059eae931cb7418a6", checked := Try.checked }
namespace Rows
def none {H : Type} : Left H := { results := [], args := [] }

/-- 'samaralaw13.BrkTwice': WHATEVER THE INPUT: true; the input reads as it did. -/
def brkTwiceSpec : ChangeSpec := { name := "brkTwice", fn := fun _ => fun
  | [d1, d2, d3] => { results := [.lit (.bool true)], args := [d1, d2, d3] }
  | _ => none }
def brkTwiceRow : OpenClaim := { program := "ytmocdanfjoginaa", sum := "23de15924102a19709c7b33a266293804976c7296997a56059eae931cb7418a6", func := "samara/samaralaw13.BrkTwice", spec := "brkTwice", unfollowed := true, recurses := true, apart := false }
def BrkTwiceSaid : Prop := brkTwiceRow.holds Try.pinned (OpenSpec.ofChange brkTwiceSpec)

/-- ITS FALSE NEIGHBOUR: 'it returns false'. Refute it at one input. -/
def brkTwiceWrong : ChangeSpec := { name := "brkTwice", fn := fun _ => fun
  | [d1, d2, d3] => { results := [.lit (.bool false)], args := [d1, d2, d3] }
  | _ => none }
def BrkTwiceWrongFalsely : Prop := brkTwiceRow.holds Try.pinned (OpenSpec.ofChange brkTwiceWrong)

/-- 'samaralaw13.BrkMoves': WHATEVER THE INPUT: true; the input reads as it did. -/
def brkMovesSpec : ChangeSpec := { name := "brkMoves", fn := fun _ => fun
  | [d1, d2, d3] => { results := [.lit (.bool true)], args := [d1, d2, d3] }
  | _ => none }
def brkMovesRow : OpenClaim := { program := "ytmocdanfjoginaa", sum := "23de15924102a19709c7b33a266293804976c7296997a56059eae931cb7418a6", func := "samara/samaralaw13.BrkMoves", spec := "brkMoves", unfollowed := true, recurses := true, apart := false }
def BrkMovesSaid : Prop := brkMovesRow.holds Try.pinned (OpenSpec.ofChange brkMovesSpec)

/-- ITS FALSE NEIGHBOUR: 'it returns false'. Refute it at one input. -/
def brkMovesWrong : ChangeSpec := { name := "brkMoves", fn := fun _ => fun
  | [d1, d2, d3] => { results := [.lit (.bool false)], args := [d1, d2, d3] }
  | _ => none }
def BrkMovesWrongFalsely : Prop := brkMovesRow.holds Try.pinned (OpenSpec.ofChange brkMovesWrong)

/-- 'samaralaw13.BrkWrong': WHATEVER THE INPUT: true; the input reads as it did. -/
def brkWrongSpec : ChangeSpec := { name := "brkWrong", fn := fun _ => fun
  | [d1, d2, d3] => { results := [.lit (.bool true)], args := [d1, d2, d3] }
  | _ => none }
def brkWrongRow : OpenClaim := { program := "ytmocdanfjoginaa", sum := "23de15924102a19709c7b33a266293804976c7296997a56059eae931cb7418a6", func := "samara/samaralaw13.BrkWrong", spec := "brkWrong", unfollowed := true, recurses := true, apart := false }
def BrkWrongSaid : Prop := brkWrongRow.holds Try.pinned (OpenSpec.ofChange brkWrongSpec)

/-- ITS FALSE NEIGHBOUR: 'it returns false'. Refute it at one input. -/
def brkWrongWrong : ChangeSpec := { name := "brkWrong", fn := fun _ => fun
  | [d1, d2, d3] => { results := [.lit (.bool false)], args := [d1, d2, d3] }
  | _ => none }
def BrkWrongWrongFalsely : Prop := brkWrongRow.holds Try.pinned (OpenSpec.ofChange brkWrongWrong)

/-- 'samaralaw13.BrkBack': WHATEVER THE INPUT: true; the input reads as it did. -/
def brkBackSpec : ChangeSpec := { name := "brkBack", fn := fun _ => fun
  | [d1, d2, d3] => { results := [.lit (.bool true)], args := [d1, d2, d3] }
  | _ => none }
def brkBackRow : OpenClaim := { program := "ytmocdanfjoginaa", sum := "23de15924102a19709c7b33a266293804976c7296997a56059eae931cb7418a6", func := "samara/samaralaw13.BrkBack", spec := "brkBack", unfollowed := true, recurses := true, apart := false }
def BrkBackSaid : Prop := brkBackRow.holds Try.pinned (OpenSpec.ofChange brkBackSpec)

/-- ITS FALSE NEIGHBOUR: 'it returns false'. Refute it at one input. -/
def brkBackWrong : ChangeSpec := { name := "brkBack", fn := fun _ => fun
  | [d1, d2, d3] => { results := [.lit (.bool false)], args := [d1, d2, d3] }
  | _ => none }
def BrkBackWrongFalsely : Prop := brkBackRow.holds Try.pinned (OpenSpec.ofChange brkBackWrong)

/-- 'samaralaw13.BrkSteps': WHATEVER THE INPUT: true; the input reads as it did. -/
def brkStepsSpec : ChangeSpec := { name := "brkSteps", fn := fun _ => fun
  | [d] => { results := [.lit (.bool true)], args := [d] }
  | _ => none }
def brkStepsRow : OpenClaim := { program := "ytmocdanfjoginaa", sum := "23de15924102a19709c7b33a266293804976c7296997a56059eae931cb7418a6", func := "samara/samaralaw13.BrkSteps", spec := "brkSteps", unfollowed := true, recurses := true, apart := false }
def BrkStepsSaid : Prop := brkStepsRow.holds Try.pinned (OpenSpec.ofChange brkStepsSpec)

/-- ITS FALSE NEIGHBOUR: 'it returns false'. Refute it at one input. -/
def brkStepsWrong : ChangeSpec := { name := "brkSteps", fn := fun _ => fun
  | [d] => { results := [.lit (.bool false)], args := [d] }
  | _ => none }
def BrkStepsWrongFalsely : Prop := brkStepsRow.holds Try.pinned (OpenSpec.ofChange brkStepsWrong)

/- THE SECOND FORM. 'bulk': how many values and letters a reading holds, each counted each time it is reached (what is shared counts as often as it is met; a slice's spare places count too). A statement '..UptoSaid' is the law's where the arguments, and the package variables that the reading takes, are together of bulk at most 1048576: NARROWER than '..Said'. Prove '..Said' where nothing that the law and all that it calls make is longer than what came in: it says more and counts as full. Else prove '..UptoSaid'. A law counts once. -/
mutual
def uptoBulk {H : Type} : DataW H → Nat
  | .lit (.string bytes) => bytes.length + 1
  | .lit _ => 1
  | .nil => 1
  | .ptr d => uptoBulk d + 1
  | .slice elems spare => uptoBulkAll elems + uptoBulkAll spare + 1
  | .agg parts => uptoBulkAll parts + 1
  | .iface _ d => uptoBulk d + 1
  | .map entries => uptoBulkEntries entries + 1
  | .held _ => 1
def uptoBulkAll {H : Type} : List (DataW H) → Nat
  | [] => 0
  | d :: r => uptoBulk d + uptoBulkAll r
def uptoBulkEntries {H : Type} : List (Lit × DataW H) → Nat
  | [] => 0
  | x :: r => uptoBulkEntry x + uptoBulkEntries r
def uptoBulkEntry {H : Type} : Lit × DataW H → Nat
  | (.string bytes, d) => bytes.length + uptoBulk d + 1
  | (_, d) => uptoBulk d + 1
 end
def uptoSmall : (H : Type) → List (DataW H) → Bool := fun _ ds => decide (uptoBulkAll ds ≤ 1048576)
def OpenSpec.upto (s : _root_.Go.ChangeSpec) : _root_.Go.OpenSpec := { _root_.Go.OpenSpec.ofChange s with cond := some uptoSmall }

/-- 'samaralaw13.BrkTwice', WHERE WHAT IT READS IS OF BULK AT MOST 1048576: true; the input reads as it did. -/
def brkTwiceUptoRow : OpenClaim := { program := "ytmocdanfjoginaa", sum := "23de15924102a19709c7b33a266293804976c7296997a56059eae931cb7418a6", func := "samara/samaralaw13.BrkTwice", spec := "brkTwice", unfollowed := true, recurses := true, apart := false, narrowed := true }
def BrkTwiceUptoSaid : Prop := brkTwiceUptoRow.holds Try.pinned (OpenSpec.upto brkTwiceSpec)

/-- 'samaralaw13.BrkMoves', WHERE WHAT IT READS IS OF BULK AT MOST 1048576: true; the input reads as it did. -/
def brkMovesUptoRow : OpenClaim := { program := "ytmocdanfjoginaa", sum := "23de15924102a19709c7b33a266293804976c7296997a56059eae931cb7418a6", func := "samara/samaralaw13.BrkMoves", spec := "brkMoves", unfollowed := true, recurses := true, apart := false, narrowed := true }
def BrkMovesUptoSaid : Prop := brkMovesUptoRow.holds Try.pinned (OpenSpec.upto brkMovesSpec)

/-- 'samaralaw13.BrkWrong', WHERE WHAT IT READS IS OF BULK AT MOST 1048576: true; the input reads as it did. -/
def brkWrongUptoRow : OpenClaim := { program := "ytmocdanfjoginaa", sum := "23de15924102a19709c7b33a266293804976c7296997a56059eae931cb7418a6", func := "samara/samaralaw13.BrkWrong", spec := "brkWrong", unfollowed := true, recurses := true, apart := false, narrowed := true }
def BrkWrongUptoSaid : Prop := brkWrongUptoRow.holds Try.pinned (OpenSpec.upto brkWrongSpec)

/-- 'samaralaw13.BrkBack', WHERE WHAT IT READS IS OF BULK AT MOST 1048576: true; the input reads as it did. -/
def brkBackUptoRow : OpenClaim := { program := "ytmocdanfjoginaa", sum := "23de15924102a19709c7b33a266293804976c7296997a56059eae931cb7418a6", func := "samara/samaralaw13.BrkBack", spec := "brkBack", unfollowed := true, recurses := true, apart := false, narrowed := true }
def BrkBackUptoSaid : Prop := brkBackUptoRow.holds Try.pinned (OpenSpec.upto brkBackSpec)

/-- 'samaralaw13.BrkSteps', WHERE WHAT IT READS IS OF BULK AT MOST 1048576: true; the input reads as it did. -/
def brkStepsUptoRow : OpenClaim := { program := "ytmocdanfjoginaa", sum := "23de15924102a19709c7b33a266293804976c7296997a56059eae931cb7418a6", func := "samara/samaralaw13.BrkSteps", spec := "brkSteps", unfollowed := true, recurses := true, apart := false, narrowed := true }
def BrkStepsUptoSaid : Prop := brkStepsUptoRow.holds Try.pinned (OpenSpec.upto brkStepsSpec)

end Rows
end Go.Proofs.Ytmocdanfjoginaa
