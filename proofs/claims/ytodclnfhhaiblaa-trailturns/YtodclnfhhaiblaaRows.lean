/-
  No cell of these rows narrows 'for every input' (looked for: loops, veiled, ifaces, maps, wideKeys, modest, calm, conditions, laid).
  DERIVED. THE GIVEN ROWS OF THIS SEAT. 4 by the template 'for every input the law returns true; each argument reads behind the call as it read before'; 0 by the template 'total and deterministic' (their statements: YtodclnfhhaiblaaTotals.lean).
  GIVEN WITH THE SEED: the statements are not yours to turn. If you find one false, say at which input.
  Laid BY PROGRAM, IN A SANDBOX (cutbox-rows.mjs): the forced cells as the released guide's own fill.sh prints them over the translation 9ec8acaa392f7057… (all of the seat's roots in one cut). By AI agents, Wed Nov 11 2026. No macro, syntax, notation, axiom, sorry.
-/
import Derived.Test.YtodclnfhhaiblaaChecked
import GoSem.Claim
import GoSem.ClaimJoined
import GoSem.ClaimMapViews
import Derived.JoinedTies
import Derived.KernelRfl
namespace Go.Proofs.Ytodclnfhhaiblaa
/- THE CELL 'sum', in the pinned program and in every row, IS THE sha256 OF THE DUMP (.gsa) THAT YtodclnfhhaiblaaProg.lean LOADS. Nothing in Lean hashes anything: it is a label: what it is worth is what the hold of that sum in a sandbox is worth. -/
noncomputable def Try.pinned : Pinned := { name := "ytodclnfhhaiblaa", sum := "9ec8acaa392f705724cdbef110098eec55c348a62a28437563a5d3bb6eb27574", checked := Try.checked }
namespace Rows
def none {H : Type} : Left H := { results := [], args := [] }

/-- 'samaralaw03.TrailTurns': WHATEVER THE INPUT: true; the input reads as it did. -/
def trailTurnsSpec : ChangeSpec := { name := "trailTurns", fn := fun _ => fun
  | [d1, d2, d3] => { results := [.lit (.bool true)], args := [d1, d2, d3] }
  | _ => none }
def trailTurnsRow : OpenClaim := { program := "ytodclnfhhaiblaa", sum := "9ec8acaa392f705724cdbef110098eec55c348a62a28437563a5d3bb6eb27574", func := "samara/samaralaw03.TrailTurns", spec := "trailTurns", unfollowed := true, recurses := true, apart := false }
def TrailTurnsSaid : Prop := trailTurnsRow.holds Try.pinned (OpenSpec.ofChange trailTurnsSpec)

/-- ITS FALSE NEIGHBOUR: 'it returns false'. Refute it at one input. -/
def trailTurnsWrong : ChangeSpec := { name := "trailTurns", fn := fun _ => fun
  | [d1, d2, d3] => { results := [.lit (.bool false)], args := [d1, d2, d3] }
  | _ => none }
def TrailTurnsWrongFalsely : Prop := trailTurnsRow.holds Try.pinned (OpenSpec.ofChange trailTurnsWrong)

/-- 'samaralaw03.TrailAlone': WHATEVER THE INPUT: true; the input reads as it did. -/
def trailAloneSpec : ChangeSpec := { name := "trailAlone", fn := fun _ => fun
  | [d] => { results := [.lit (.bool true)], args := [d] }
  | _ => none }
def trailAloneRow : OpenClaim := { program := "ytodclnfhhaiblaa", sum := "9ec8acaa392f705724cdbef110098eec55c348a62a28437563a5d3bb6eb27574", func := "samara/samaralaw03.TrailAlone", spec := "trailAlone", unfollowed := true, recurses := true, apart := false }
def TrailAloneSaid : Prop := trailAloneRow.holds Try.pinned (OpenSpec.ofChange trailAloneSpec)

/-- ITS FALSE NEIGHBOUR: 'it returns false'. Refute it at one input. -/
def trailAloneWrong : ChangeSpec := { name := "trailAlone", fn := fun _ => fun
  | [d] => { results := [.lit (.bool false)], args := [d] }
  | _ => none }
def TrailAloneWrongFalsely : Prop := trailAloneRow.holds Try.pinned (OpenSpec.ofChange trailAloneWrong)

/-- 'samaralaw03.TrailWaits': WHATEVER THE INPUT: true; the input reads as it did. -/
def trailWaitsSpec : ChangeSpec := { name := "trailWaits", fn := fun _ => fun
  | [d1, d2] => { results := [.lit (.bool true)], args := [d1, d2] }
  | _ => none }
def trailWaitsRow : OpenClaim := { program := "ytodclnfhhaiblaa", sum := "9ec8acaa392f705724cdbef110098eec55c348a62a28437563a5d3bb6eb27574", func := "samara/samaralaw03.TrailWaits", spec := "trailWaits", unfollowed := true, recurses := true, apart := false }
def TrailWaitsSaid : Prop := trailWaitsRow.holds Try.pinned (OpenSpec.ofChange trailWaitsSpec)

/-- ITS FALSE NEIGHBOUR: 'it returns false'. Refute it at one input. -/
def trailWaitsWrong : ChangeSpec := { name := "trailWaits", fn := fun _ => fun
  | [d1, d2] => { results := [.lit (.bool false)], args := [d1, d2] }
  | _ => none }
def TrailWaitsWrongFalsely : Prop := trailWaitsRow.holds Try.pinned (OpenSpec.ofChange trailWaitsWrong)

/-- 'samaralaw03.TrailFresh': WHATEVER THE INPUT: true; the input reads as it did. -/
def trailFreshSpec : ChangeSpec := { name := "trailFresh", fn := fun _ => fun
  | [d] => { results := [.lit (.bool true)], args := [d] }
  | _ => none }
def trailFreshRow : OpenClaim := { program := "ytodclnfhhaiblaa", sum := "9ec8acaa392f705724cdbef110098eec55c348a62a28437563a5d3bb6eb27574", func := "samara/samaralaw03.TrailFresh", spec := "trailFresh", unfollowed := true, recurses := true, apart := false }
def TrailFreshSaid : Prop := trailFreshRow.holds Try.pinned (OpenSpec.ofChange trailFreshSpec)

/-- ITS FALSE NEIGHBOUR: 'it returns false'. Refute it at one input. -/
def trailFreshWrong : ChangeSpec := { name := "trailFresh", fn := fun _ => fun
  | [d] => { results := [.lit (.bool false)], args := [d] }
  | _ => none }
def TrailFreshWrongFalsely : Prop := trailFreshRow.holds Try.pinned (OpenSpec.ofChange trailFreshWrong)

/- THE SECOND FORM. 'bulk': how many values and letters a reading holds, each counted each time it is reached (what is shared counts as often as it is met; a slice's spare places count too). A statement '..UptoSaid' is the law's where the arguments, and the package variables that the reading takes, are together of bulk at most 1048576: NARROWER than '..Said'. Prove '..Said' where nothing that the law and all that it calls make is longer than what came in: it says more and counts as full. Else prove '..UptoSaid'. A law counts once. -/
mutual
def uptoBulk {H : Type} : DataW H → Nat
  | .lit (.string bytes) => bytes.length + 1
  | .lit _ => 1
  | .nil => 1
  | .ptr d => uptoBulk d + 1
  | .slice elems spare => uptoBulkAll elems + uptoBulkAll spare + 1
  | .agg parts => uptoBulkAll parts + 1
  | .iface _ d => uptoBulk d + 1
  | .map entries => uptoBulkEntries entries + 1
  | .held _ => 1
def uptoBulkAll {H : Type} : List (DataW H) → Nat
  | [] => 0
  | d :: r => uptoBulk d + uptoBulkAll r
def uptoBulkEntries {H : Type} : List (Lit × DataW H) → Nat
  | [] => 0
  | x :: r => uptoBulkEntry x + uptoBulkEntries r
def uptoBulkEntry {H : Type} : Lit × DataW H → Nat
  | (.string bytes, d) => bytes.length + uptoBulk d + 1
  | (_, d) => uptoBulk d + 1
 end
def uptoSmall : (H : Type) → List (DataW H) → Bool := fun _ ds => decide (uptoBulkAll ds ≤ 1048576)
def OpenSpec.upto (s : _root_.Go.ChangeSpec) : _root_.Go.OpenSpec := { _root_.Go.OpenSpec.ofChange s with cond := some uptoSmall }

/-- 'samaralaw03.TrailTurns', WHERE WHAT IT READS IS OF BULK AT MOST 1048576: true; the input reads as it did. -/
def trailTurnsUptoRow : OpenClaim := { program := "ytodclnfhhaiblaa", sum := "9ec8acaa392f705724cdbef110098eec55c348a62a28437563a5d3bb6eb27574", func := "samara/samaralaw03.TrailTurns", spec := "trailTurns", unfollowed := true, recurses := true, apart := false, narrowed := true }
def TrailTurnsUptoSaid : Prop := trailTurnsUptoRow.holds Try.pinned (OpenSpec.upto trailTurnsSpec)

/-- 'samaralaw03.TrailAlone', WHERE WHAT IT READS IS OF BULK AT MOST 1048576: true; the input reads as it did. -/
def trailAloneUptoRow : OpenClaim := { program := "ytodclnfhhaiblaa", sum := "9ec8acaa392f705724cdbef110098eec55c348a62a28437563a5d3bb6eb27574", func := "samara/samaralaw03.TrailAlone", spec := "trailAlone", unfollowed := true, recurses := true, apart := false, narrowed := true }
def TrailAloneUptoSaid : Prop := trailAloneUptoRow.holds Try.pinned (OpenSpec.upto trailAloneSpec)

/-- 'samaralaw03.TrailWaits', WHERE WHAT IT READS IS OF BULK AT MOST 1048576: true; the input reads as it did. -/
def trailWaitsUptoRow : OpenClaim := { program := "ytodclnfhhaiblaa", sum := "9ec8acaa392f705724cdbef110098eec55c348a62a28437563a5d3bb6eb27574", func := "samara/samaralaw03.TrailWaits", spec := "trailWaits", unfollowed := true, recurses := true, apart := false, narrowed := true }
def TrailWaitsUptoSaid : Prop := trailWaitsUptoRow.holds Try.pinned (OpenSpec.upto trailWaitsSpec)

/-- 'samaralaw03.TrailFresh', WHERE WHAT IT READS IS OF BULK AT MOST 1048576: true; the input reads as it did. -/
def trailFreshUptoRow : OpenClaim := { program := "ytodclnfhhaiblaa", sum := "9ec8acaa392f705724cdbef110098eec55c348a62a28437563a5d3bb6eb27574", func := "samara/samaralaw03.TrailFresh", spec := "trailFresh", unfollowed := true, recurses := true, apart := false, narrowed := true }
def TrailFreshUptoSaid : Prop := trailFreshUptoRow.holds Try.pinned (OpenSpec.upto trailFreshSpec)

end Rows
end Go.Proofs.Ytodclnfhhaiblaa
