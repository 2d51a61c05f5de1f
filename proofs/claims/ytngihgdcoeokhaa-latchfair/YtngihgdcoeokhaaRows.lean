/-
  No cell of these rows narrows 'for every input' (looked for: loops, veiled, ifaces, maps, wideKeys, modest, calm, conditions, laid).
  DERIVED. THE GIVEN ROWS OF THIS SEAT. 4 by the template 'for every input the law returns true; each argument reads behind the call as it read before'; 0 by the template 'total and deterministic' (their statements: YtngihgdcoeokhaaTotals.lean).
  GIVEN WITH THE SEED: the statements are not yours to turn. If you find one false, say at which input.
  Laid BY PROGRAM, IN A SANDBOX (cutbox-rows.mjs): the forced cells as the released guide's own fill.sh prints them over the translation e37f0e1c2924e792… (all of the seat's roots in one cut). By AI agents, Wed Nov 11 2026. No macro, syntax, notation, axiom, sorry.
-/
import Derived.Test.YtngihgdcoeokhaaChecked
import GoSem.Claim
import GoSem.ClaimJoined
import GoSem.ClaimMapViews
import Derived.JoinedTies
import Derived.KernelRfl
namespace Go.Proofs.Ytngihgdcoeokhaa
/- THE CELL 'sum', in the pinned program and in every row, IS THE sha256 OF THE DUMP (.gsa) THAT YtngihgdcoeokhaaProg.lean LOADS. Nothing in Lean hashes anything: it is a label: what it is worth is what the hold of that sum in a sandbox is worth. -/
noncomputable def Try.pinned : Pinned := { name := "ytngihgdcoeokhaa", sum := "e37f0e1c2924e792ea46f664d7c9489735527a77df94f3ca968444adea664587", checked := Try.checked }
namespace Rows
def none {H : Type} : Left H := { results := [], args := [] }

/-- 'samaralaw05.LatchTurns': WHATEVER THE INPUT: true; the input reads as it did. -/
def latchTurnsSpec : ChangeSpec := { name := "latchTurns", fn := fun _ => fun
  | [d1, d2] => { results := [.lit (.bool true)], args := [d1, d2] }
  | _ => none }
def latchTurnsRow : OpenClaim := { program := "ytngihgdcoeokhaa", sum := "e37f0e1c2924e792ea46f664d7c9489735527a77df94f3ca968444adea664587", func := "samara/samaralaw05.LatchTurns", spec := "latchTurns", unfollowed := true, recurses := true, apart := false }
def LatchTurnsSaid : Prop := latchTurnsRow.holds Try.pinned (OpenSpec.ofChange latchTurnsSpec)

/-- ITS FALSE NEIGHBOUR: 'it returns false'. Refute it at one input. -/
def latchTurnsWrong : ChangeSpec := { name := "latchTurns", fn := fun _ => fun
  | [d1, d2] => { results := [.lit (.bool false)], args := [d1, d2] }
  | _ => none }
def LatchTurnsWrongFalsely : Prop := latchTurnsRow.holds Try.pinned (OpenSpec.ofChange latchTurnsWrong)

/-- 'samaralaw05.LatchFair': WHATEVER THE INPUT: true; the input reads as it did. -/
def latchFairSpec : ChangeSpec := { name := "latchFair", fn := fun _ => fun
  | [d1, d2] => { results := [.lit (.bool true)], args := [d1, d2] }
  | _ => none }
def latchFairRow : OpenClaim := { program := "ytngihgdcoeokhaa", sum := "e37f0e1c2924e792ea46f664d7c9489735527a77df94f3ca968444adea664587", func := "samara/samaralaw05.LatchFair", spec := "latchFair", unfollowed := true, recurses := true, apart := false }
def LatchFairSaid : Prop := latchFairRow.holds Try.pinned (OpenSpec.ofChange latchFairSpec)

/-- ITS FALSE NEIGHBOUR: 'it returns false'. Refute it at one input. -/
def latchFairWrong : ChangeSpec := { name := "latchFair", fn := fun _ => fun
  | [d1, d2] => { results := [.lit (.bool false)], args := [d1, d2] }
  | _ => none }
def LatchFairWrongFalsely : Prop := latchFairRow.holds Try.pinned (OpenSpec.ofChange latchFairWrong)

/-- 'samaralaw05.LatchIdle': WHATEVER THE INPUT: true; the input reads as it did. -/
def latchIdleSpec : ChangeSpec := { name := "latchIdle", fn := fun _ => fun
  | [d1, d2] => { results := [.lit (.bool true)], args := [d1, d2] }
  | _ => none }
def latchIdleRow : OpenClaim := { program := "ytngihgdcoeokhaa", sum := "e37f0e1c2924e792ea46f664d7c9489735527a77df94f3ca968444adea664587", func := "samara/samaralaw05.LatchIdle", spec := "latchIdle", unfollowed := true, recurses := true, apart := false }
def LatchIdleSaid : Prop := latchIdleRow.holds Try.pinned (OpenSpec.ofChange latchIdleSpec)

/-- ITS FALSE NEIGHBOUR: 'it returns false'. Refute it at one input. -/
def latchIdleWrong : ChangeSpec := { name := "latchIdle", fn := fun _ => fun
  | [d1, d2] => { results := [.lit (.bool false)], args := [d1, d2] }
  | _ => none }
def LatchIdleWrongFalsely : Prop := latchIdleRow.holds Try.pinned (OpenSpec.ofChange latchIdleWrong)

/-- 'samaralaw05.LatchWaits': WHATEVER THE INPUT: true; the input reads as it did. -/
def latchWaitsSpec : ChangeSpec := { name := "latchWaits", fn := fun _ => fun
  | [d1, d2, d3] => { results := [.lit (.bool true)], args := [d1, d2, d3] }
  | _ => none }
def latchWaitsRow : OpenClaim := { program := "ytngihgdcoeokhaa", sum := "e37f0e1c2924e792ea46f664d7c9489735527a77df94f3ca968444adea664587", func := "samara/samaralaw05.LatchWaits", spec := "latchWaits", unfollowed := true, recurses := true, apart := false }
def LatchWaitsSaid : Prop := latchWaitsRow.holds Try.pinned (OpenSpec.ofChange latchWaitsSpec)

/-- ITS FALSE NEIGHBOUR: 'it returns false'. Refute it at one input. -/
def latchWaitsWrong : ChangeSpec := { name := "latchWaits", fn := fun _ => fun
  | [d1, d2, d3] => { results := [.lit (.bool false)], args := [d1, d2, d3] }
  | _ => none }
def LatchWaitsWrongFalsely : Prop := latchWaitsRow.holds Try.pinned (OpenSpec.ofChange latchWaitsWrong)

/- THE SECOND FORM. 'bulk': how many values and letters a reading holds, each counted each time it is reached (what is shared counts as often as it is met; a slice's spare places count too). A statement '..UptoSaid' is the law's where the arguments, and the package variables that the reading takes, are together of bulk at most 1048576: NARROWER than '..Said'. Prove '..Said' where nothing that the law and all that it calls make is longer than what came in: it says more and counts as full. Else prove '..UptoSaid'. A law counts once. -/
mutual
def uptoBulk {H : Type} : DataW H → Nat
  | .lit (.string bytes) => bytes.length + 1
  | .lit _ => 1
  | .nil => 1
  | .ptr d => uptoBulk d + 1
  | .slice elems spare => uptoBulkAll elems + uptoBulkAll spare + 1
  | .agg parts => uptoBulkAll parts + 1
  | .iface _ d => uptoBulk d + 1
  | .map entries => uptoBulkEntries entries + 1
  | .held _ => 1
def uptoBulkAll {H : Type} : List (DataW H) → Nat
  | [] => 0
  | d :: r => uptoBulk d + uptoBulkAll r
def uptoBulkEntries {H : Type} : List (Lit × DataW H) → Nat
  | [] => 0
  | x :: r => uptoBulkEntry x + uptoBulkEntries r
def uptoBulkEntry {H : Type} : Lit × DataW H → Nat
  | (.string bytes, d) => bytes.length + uptoBulk d + 1
  | (_, d) => uptoBulk d + 1
 end
def uptoSmall : (H : Type) → List (DataW H) → Bool := fun _ ds => decide (uptoBulkAll ds ≤ 1048576)
def OpenSpec.upto (s : _root_.Go.ChangeSpec) : _root_.Go.OpenSpec := { _root_.Go.OpenSpec.ofChange s with cond := some uptoSmall }

/-- 'samaralaw05.LatchTurns', WHERE WHAT IT READS IS OF BULK AT MOST 1048576: true; the input reads as it did. -/
def latchTurnsUptoRow : OpenClaim := { program := "ytngihgdcoeokhaa", sum := "e37f0e1c2924e792ea46f664d7c9489735527a77df94f3ca968444adea664587", func := "samara/samaralaw05.LatchTurns", spec := "latchTurns", unfollowed := true, recurses := true, apart := false, narrowed := true }
def LatchTurnsUptoSaid : Prop := latchTurnsUptoRow.holds Try.pinned (OpenSpec.upto latchTurnsSpec)

/-- 'samaralaw05.LatchFair', WHERE WHAT IT READS IS OF BULK AT MOST 1048576: true; the input reads as it did. -/
def latchFairUptoRow : OpenClaim := { program := "ytngihgdcoeokhaa", sum := "e37f0e1c2924e792ea46f664d7c9489735527a77df94f3ca968444adea664587", func := "samara/samaralaw05.LatchFair", spec := "latchFair", unfollowed := true, recurses := true, apart := false, narrowed := true }
def LatchFairUptoSaid : Prop := latchFairUptoRow.holds Try.pinned (OpenSpec.upto latchFairSpec)

/-- 'samaralaw05.LatchIdle', WHERE WHAT IT READS IS OF BULK AT MOST 1048576: true; the input reads as it did. -/
def latchIdleUptoRow : OpenClaim := { program := "ytngihgdcoeokhaa", sum := "e37f0e1c2924e792ea46f664d7c9489735527a77df94f3ca968444adea664587", func := "samara/samaralaw05.LatchIdle", spec := "latchIdle", unfollowed := true, recurses := true, apart := false, narrowed := true }
def LatchIdleUptoSaid : Prop := latchIdleUptoRow.holds Try.pinned (OpenSpec.upto latchIdleSpec)

/-- 'samaralaw05.LatchWaits', WHERE WHAT IT READS IS OF BULK AT MOST 1048576: true; the input reads as it did. -/
def latchWaitsUptoRow : OpenClaim := { program := "ytngihgdcoeokhaa", sum := "e37f0e1c2924e792ea46f664d7c9489735527a77df94f3ca968444adea664587", func := "samara/samaralaw05.LatchWaits", spec := "latchWaits", unfollowed := true, recurses := true, apart := false, narrowed := true }
def LatchWaitsUptoSaid : Prop := latchWaitsUptoRow.holds Try.pinned (OpenSpec.upto latchWaitsSpec)

end Rows
end Go.Proofs.Ytngihgdcoeokhaa
