/-
  No cell of these rows narrows 'for every input' (looked for: loops, veiled, ifaces, maps, wideKeys, modest, calm, conditions, laid).
  DERIVED. THE GIVEN ROWS OF THIS SEAT. 4 by the template 'for every input the law returns true; each argument reads behind the call as it read before'; 0 by the template 'total and deterministic' (their statements: YtpgepcmncppphaaTotals.lean).
  GIVEN WITH THE SEED: the statements are not yours to turn. If you find one false, say at which input.
  Laid BY PROGRAM, IN A SANDBOX (cutbox-rows.mjs): the forced cells as the released guide's own fill.sh prints them over the translation 4cea04d8700db76a… (all of the seat's roots in one cut). By AI agents, Wed Nov 11 2026. No macro, syntax, notation, axiom, sorry.
-/
import Derived.Test.YtpgepcmncppphaaChecked
import GoSem.Claim
import GoSem.ClaimJoined
import GoSem.ClaimMapViews
import Derived.JoinedTies
import Derived.KernelRfl
namespace Go.Proofs.Ytpgepcmncppphaa
/- THE CELL 'sum', in the pinned program and in every row, IS THE sha256 OF THE DUMP (.gsa) THAT YtpgepcmncppphaaProg.lean LOADS. Nothing in Lean hashes anything: it is a label: what it is worth is what the hold of that sum in a sandbox is worth. -/
noncomputable def Try.pinned : Pinned := { name := "ytpgepcmncppphaa", sum := "4cea04d8700db76ab312ca363b5919382f48f4190277cde8eb42650f7df85a32", checked := Try.checked }
namespace Rows
def none {H : Type} : Left H := { results := [], args := [] }

/-- 'samaralaw04.RcuTurns': WHATEVER THE INPUT: true; the input reads as it did. -/
def rcuTurnsSpec : ChangeSpec := { name := "rcuTurns", fn := fun _ => fun
  | [d1, d2] => { results := [.lit (.bool true)], args := [d1, d2] }
  | _ => none }
def rcuTurnsRow : OpenClaim := { program := "ytpgepcmncppphaa", sum := "4cea04d8700db76ab312ca363b5919382f48f4190277cde8eb42650f7df85a32", func := "samara/samaralaw04.RcuTurns", spec := "rcuTurns", unfollowed := true, recurses := true, apart := false }
def RcuTurnsSaid : Prop := rcuTurnsRow.holds Try.pinned (OpenSpec.ofChange rcuTurnsSpec)

/-- ITS FALSE NEIGHBOUR: 'it returns false'. Refute it at one input. -/
def rcuTurnsWrong : ChangeSpec := { name := "rcuTurns", fn := fun _ => fun
  | [d1, d2] => { results := [.lit (.bool false)], args := [d1, d2] }
  | _ => none }
def RcuTurnsWrongFalsely : Prop := rcuTurnsRow.holds Try.pinned (OpenSpec.ofChange rcuTurnsWrong)

/-- 'samaralaw04.RcuHolds': WHATEVER THE INPUT: true; the input reads as it did. -/
def rcuHoldsSpec : ChangeSpec := { name := "rcuHolds", fn := fun _ => fun
  | [d1, d2, d3] => { results := [.lit (.bool true)], args := [d1, d2, d3] }
  | _ => none }
def rcuHoldsRow : OpenClaim := { program := "ytpgepcmncppphaa", sum := "4cea04d8700db76ab312ca363b5919382f48f4190277cde8eb42650f7df85a32", func := "samara/samaralaw04.RcuHolds", spec := "rcuHolds", unfollowed := true, recurses := true, apart := false }
def RcuHoldsSaid : Prop := rcuHoldsRow.holds Try.pinned (OpenSpec.ofChange rcuHoldsSpec)

/-- ITS FALSE NEIGHBOUR: 'it returns false'. Refute it at one input. -/
def rcuHoldsWrong : ChangeSpec := { name := "rcuHolds", fn := fun _ => fun
  | [d1, d2, d3] => { results := [.lit (.bool false)], args := [d1, d2, d3] }
  | _ => none }
def RcuHoldsWrongFalsely : Prop := rcuHoldsRow.holds Try.pinned (OpenSpec.ofChange rcuHoldsWrong)

/-- 'samaralaw04.RcuFrees': WHATEVER THE INPUT: true; the input reads as it did. -/
def rcuFreesSpec : ChangeSpec := { name := "rcuFrees", fn := fun _ => fun
  | [d1, d2] => { results := [.lit (.bool true)], args := [d1, d2] }
  | _ => none }
def rcuFreesRow : OpenClaim := { program := "ytpgepcmncppphaa", sum := "4cea04d8700db76ab312ca363b5919382f48f4190277cde8eb42650f7df85a32", func := "samara/samaralaw04.RcuFrees", spec := "rcuFrees", unfollowed := true, recurses := true, apart := false }
def RcuFreesSaid : Prop := rcuFreesRow.holds Try.pinned (OpenSpec.ofChange rcuFreesSpec)

/-- ITS FALSE NEIGHBOUR: 'it returns false'. Refute it at one input. -/
def rcuFreesWrong : ChangeSpec := { name := "rcuFrees", fn := fun _ => fun
  | [d1, d2] => { results := [.lit (.bool false)], args := [d1, d2] }
  | _ => none }
def RcuFreesWrongFalsely : Prop := rcuFreesRow.holds Try.pinned (OpenSpec.ofChange rcuFreesWrong)

/-- 'samaralaw04.RcuNobody': WHATEVER THE INPUT: true; the input reads as it did. -/
def rcuNobodySpec : ChangeSpec := { name := "rcuNobody", fn := fun _ => fun
  | [d] => { results := [.lit (.bool true)], args := [d] }
  | _ => none }
def rcuNobodyRow : OpenClaim := { program := "ytpgepcmncppphaa", sum := "4cea04d8700db76ab312ca363b5919382f48f4190277cde8eb42650f7df85a32", func := "samara/samaralaw04.RcuNobody", spec := "rcuNobody", unfollowed := true, recurses := true, apart := false }
def RcuNobodySaid : Prop := rcuNobodyRow.holds Try.pinned (OpenSpec.ofChange rcuNobodySpec)

/-- ITS FALSE NEIGHBOUR: 'it returns false'. Refute it at one input. -/
def rcuNobodyWrong : ChangeSpec := { name := "rcuNobody", fn := fun _ => fun
  | [d] => { results := [.lit (.bool false)], args := [d] }
  | _ => none }
def RcuNobodyWrongFalsely : Prop := rcuNobodyRow.holds Try.pinned (OpenSpec.ofChange rcuNobodyWrong)

/- THE SECOND FORM. 'bulk': how many values and letters a reading holds, each counted each time it is reached (what is shared counts as often as it is met; a slice's spare places count too). A statement '..UptoSaid' is the law's where the arguments, and the package variables that the reading takes, are together of bulk at most 1048576: NARROWER than '..Said'. Prove '..Said' where nothing that the law and all that it calls make is longer than what came in: it says more and counts as full. Else prove '..UptoSaid'. A law counts once. -/
mutual
def uptoBulk {H : Type} : DataW H → Nat
  | .lit (.string bytes) => bytes.length + 1
  | .lit _ => 1
  | .nil => 1
  | .ptr d => uptoBulk d + 1
  | .slice elems spare => uptoBulkAll elems + uptoBulkAll spare + 1
  | .agg parts => uptoBulkAll parts + 1
  | .iface _ d => uptoBulk d + 1
  | .map entries => uptoBulkEntries entries + 1
  | .held _ => 1
def uptoBulkAll {H : Type} : List (DataW H) → Nat
  | [] => 0
  | d :: r => uptoBulk d + uptoBulkAll r
def uptoBulkEntries {H : Type} : List (Lit × DataW H) → Nat
  | [] => 0
  | x :: r => uptoBulkEntry x + uptoBulkEntries r
def uptoBulkEntry {H : Type} : Lit × DataW H → Nat
  | (.string bytes, d) => bytes.length + uptoBulk d + 1
  | (_, d) => uptoBulk d + 1
 end
def uptoSmall : (H : Type) → List (DataW H) → Bool := fun _ ds => decide (uptoBulkAll ds ≤ 1048576)
def OpenSpec.upto (s : _root_.Go.ChangeSpec) : _root_.Go.OpenSpec := { _root_.Go.OpenSpec.ofChange s with cond := some uptoSmall }

/-- 'samaralaw04.RcuTurns', WHERE WHAT IT READS IS OF BULK AT MOST 1048576: true; the input reads as it did. -/
def rcuTurnsUptoRow : OpenClaim := { program := "ytpgepcmncppphaa", sum := "4cea04d8700db76ab312ca363b5919382f48f4190277cde8eb42650f7df85a32", func := "samara/samaralaw04.RcuTurns", spec := "rcuTurns", unfollowed := true, recurses := true, apart := false, narrowed := true }
def RcuTurnsUptoSaid : Prop := rcuTurnsUptoRow.holds Try.pinned (OpenSpec.upto rcuTurnsSpec)

/-- 'samaralaw04.RcuHolds', WHERE WHAT IT READS IS OF BULK AT MOST 1048576: true; the input reads as it did. -/
def rcuHoldsUptoRow : OpenClaim := { program := "ytpgepcmncppphaa", sum := "4cea04d8700db76ab312ca363b5919382f48f4190277cde8eb42650f7df85a32", func := "samara/samaralaw04.RcuHolds", spec := "rcuHolds", unfollowed := true, recurses := true, apart := false, narrowed := true }
def RcuHoldsUptoSaid : Prop := rcuHoldsUptoRow.holds Try.pinned (OpenSpec.upto rcuHoldsSpec)

/-- 'samaralaw04.RcuFrees', WHERE WHAT IT READS IS OF BULK AT MOST 1048576: true; the input reads as it did. -/
def rcuFreesUptoRow : OpenClaim := { program := "ytpgepcmncppphaa", sum := "4cea04d8700db76ab312ca363b5919382f48f4190277cde8eb42650f7df85a32", func := "samara/samaralaw04.RcuFrees", spec := "rcuFrees", unfollowed := true, recurses := true, apart := false, narrowed := true }
def RcuFreesUptoSaid : Prop := rcuFreesUptoRow.holds Try.pinned (OpenSpec.upto rcuFreesSpec)

/-- 'samaralaw04.RcuNobody', WHERE WHAT IT READS IS OF BULK AT MOST 1048576: true; the input reads as it did. -/
def rcuNobodyUptoRow : OpenClaim := { program := "ytpgepcmncppphaa", sum := "4cea04d8700db76ab312ca363b5919382f48f4190277cde8eb42650f7df85a32", func := "samara/samaralaw04.RcuNobody", spec := "rcuNobody", unfollowed := true, recurses := true, apart := false, narrowed := true }
def RcuNobodyUptoSaid : Prop := rcuNobodyUptoRow.holds Try.pinned (OpenSpec.upto rcuNobodySpec)

end Rows
end Go.Proofs.Ytpgepcmncppphaa
